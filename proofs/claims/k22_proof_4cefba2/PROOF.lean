import PyProof.Rows.All
import PyProof.TupleKey
import PyProof.P3Eq
import PyProof.DictKinds
import Wide.All
import OpenK.AllK
import Wide.FinOn
import Lean
import PyProof.EqAt
import PyProof.EqKinds
import PyProof.TupleCall
import PyProof.StrBlockL
import PyProof.ListMulRoad
import PyProof.FactsAll.tuple
import KE.KTryMore
import OpenK.KOwn
import PyProof.ZipIter
import PyProof.ListNew
import KE.KRevIter
import KE.KIntText
import PyProof.StrLawsIn
import OpenK.KDescr
import PyProof.ExcArgs
import PyProof.ExcClass3
import PyProof.ExcInit
import PyProof.InstStoreFacts
import KE.LcSums
import PyProof.EnumStmt
import PyProof.AttrMissHeap
import KE.KDictOf
import PySem.Challenge.RW_evenkinds_k22_programs_without_kind
set_option Elab.async false
set_option maxHeartbeats 4000000
set_option compiler.extract_closed false
set_option genSizeOf false
set_option bootstrap.genMatcherCode false
set_option linter.all false
local macro_rules|`(command|abbrev $i:declId $s:optDeclSig $v:declVal)=>Lean.MonadRef.withRef .missing `(command|noncomputable def $i:declId $s:optDeclSig $v:declVal)
local macro_rules|`(command|def $i:declId $b* :$t $v:declVal)=>Lean.MonadRef.withRef .missing `(command|noncomputable def $i:declId $b* :$t $v:declVal)
local macro_rules|`(⋯)=>`(by lia)
local macro_rules|`(∅)=>`(by decide)
local macro_rules|`(∎)=>`(by simp)
open List (mem_cons mem_filter length_cons length_nil getElem?_eq_getElem append_assoc getElem?_eq_none any_eq_true)
open Nat (pow_pos mul_comm)
open Bool (false_eq_true not_eq_true')
open Option renaming some->AA,none->AE,isSome_iff_exists->BC,casesOn->DR,bind_some->Eb,map_some->Gq,isSome_some->IU,getD_none->Iv
open Decidable renaming decide->AB
open Bool renaming true->AC,false->AG,false_ne_true->AH,and_eq_true->BD,false_eq_true->Bm,and_self->DI,not_eq_true'->EU,false_or->EX,eq_iff_iff->FC,and_eq_true_iff->FW,not_true->Fu,true_or->Hw,or_false->KS,or_true->Ko
open PySem renaming wpAny_bind->AD,Value->AF,Addr->AI,Shared->AJ,mainGlobals->AK,wpAny_pure->AL,wpAny->AQ,Expr->AS,Program->AZ,PyData->Ac,starEach->Aj,World->At,Heap->Au,wpAny_field->Ay,Scope->BE,bootBuiltins->BF,Around->BG,wpAny_mono->BJ,wpAny_call_entry->BL,wpAny_callSpecial?_slot->BN,wpAny_holding->BO,Stmt->BP,wpAny_Call_Name_kw->BV,FuncData->BZ,wpAny_newObj_type->Ba,backTo->Bp,rawInt->Bt,assignEach->CB,builtinLookup_eq_fast->CC,cLine->CG,sysModules->CK,builtinsNs->CL,behindInMarks->CM,attributeBase->CN,Builtin->CT,wpAny_setField->CW,wpAny_setField_rec->Cg,wpAny_specialOf->Ch,wpAny_execs_nil->Ci,wpAny_passesOwn->Cj,compareOp->Co,swapsWith->Cp,wpAny_attempt->Cr,wpAny_truthy_bool->Cu,keywordEach->DF,Arguments->DM,typeLookup_type->DX,wpAny_call->DZ,foldedSetIterable->Dd,codeAny_mono->De,FuncBody->Dj,methodCallForm->Dk,wpAny_loadPart_at->Dm,DictEntry->Dt,typeLookup->Du,checkBuiltinCall->Dv,codeAny->Dz,getItem->EA,binaryOp->ED,bindArgs->EF,sliceBounds->EH,excClassObj->EJ,codeAny_call_builtin->EK,CmpOp->EO,wpAny_typeOf->ET,TriplesOk->Ea,wpAny_rule->Ef,wpAny_seqItems->Eg,pyNext->Ei,backToKw->El,wpAny_pyIter_tuple->Em,isSubtype_type->Eo,eqIsQuiet_byValue->Ey,wpAny_pyIter_enum->Ez,ExceptHandler->FE,wpAny_pyHash_str->FM,wpAny_isInstance->FN,Operator->FP,call_meets->FZ,letOwnedTupleGo->Fl,wpAny_loadPart'->Fm,getAttrByItsOwn->Fp,sizeLine_eq->GP,NameKind->GQ,IsPart->GR,firstArgMember->GT,wpAny_of_eq->GU,boundAndCalled->GW,PassesOwn->GX,noteFrame->GZ,codeAmong->Ga,swapsWithSole->Gp,isInstance->Gr,BindsTo->HE,wpAny_sequenceKey->HG,valueAt->HI,ExcBaseFacts->HJ,plainObj_wpAny_Assign_Attribute->HN,wpAny_pyHash_int->HQ,wpAny_execs_cons->HU,noFill_tuple_add->HW,wpAny_mkInt->Hh,standAt->Ho,Keyword->Hu,callerA->Hy,isTrue->IH,Result->IK,recursionLimit->IM,atKey->IP,closureFor->IQ,wpAny_standAt->Ib,seq_tuple_add->Ie,wpAny_comprehension_free->Ih,Comprehension->Il,bindL->Iq,bindC->Ir,seqIndex?->Iu,pyIter->JB,getAttr->JC,concat_meets->JF,seqIndex_neg->JG,wpAny_Call_method_late->JI,wpAny_isTrue_Compare1->JR,GenState->JW,seqIndex_of->JZ,wpAny_newFunctionEnv->Jc,wpAny_pyIter_revIter->Jd,entryFor->Jg,setField->Jh,loadIfAlive->Ji,bindSpecial->Jj,getAttr?->Jk,wpAny_Name->Jz,findBy->KC,typeOf->KJ,argsOk->KM,getattributeRaised->KO,newEnv->KP,setItem->KW,wpAny_assign_Name->KY,wpAny_Assign_Name->KZ,setAttr->Ka,slot_list_getitem->Ke,wpAny_Call_method->Kg,dictGet->Ki,slot_dict_getitem->Kj,beq_builtin_none->Kr,wpAny_forIn_list->Ks,getMethod->Kv,wpAny_lookBehind->Kw,pastItsLine_dict->Kx,cellsFrom->LA,entryFor_of_tree->LK,setFlight->LL,getAttrBy->LO,codeAny_of_tree->Lc,codeAny_builtin->Ld,Model->Lj,wpAny_Compare1->Lk,IntMulOk->Ll,nsFind->Lm,wpAny_loadPart->Ln,cellOf->Lq,compEnvC->Lr,newFunctionEnv->Lu,newExc->Lv,newTuple->Lw,IsEnum->Lx,entryFor_alias->Ly,isSubtype_stop->Lz,refuseLoop_ref->MC,BoolOp->MD
open PySem.W renaming Frag->AM,nsIn->Ae,findIn->Av,keepIn->BQ,codeHdIn->CA,kia_one->CP,codeIn->CQ,fnOf->CZ,emptyDict->Cw,kitOne->Cy,callWith_K->DD,mg_of->DG,instObj->EN,looks_findIn->EV,specialIn->Er,methodCall_KW->FV,lookIn->Fw,excIn->GC,plainGet->Gd,hasDictIn->HM,mroIn->Hd,clsIn->Hi,tabObj->Hn,plainGet_of->IJ,callWith_K0->IN,makesIn->IS,takesIn->IT,findObj->IV,isFn->Ic,isNs_of_in->Ii,methodObj->JA,plainOver->JD,exmOne->JM,noTabs->JO,takerIn->KD,cellsFrom_some->KF,findIn->KN,InstAt->Ku,codeHd_of_K->Lh,kitx_tuple->Lo,tail_of_in->MA,Looks->MB,mg_none_of->MH
open PySem.Heap renaming get?_push_of_some->AN,lt_size->Aq,get?_push_size->Ar,SameBut->BB,get?_update_self->By,get?_update_other->CH,ExtBut->FU,get?_none_of_le->Fk,get?_update_ne->Fq,size_push->GY,MadeExcOf->HP,get?_push_at->JN
open List renaming getElem?_eq_getElem->AO,mem_cons->AR,getElem?_eq_some_iff->AT,length_map->AV,not_mem_nil->AW,length_cons->AY,getElem?_append_left->Aa,size_toArray->Ad,map_append->Af,map_cons->Ag,getElem?_map->Ak,mem_cons_of_mem->Am,getElem?_append_right->An,length_append->Ap,mem_of_getElem?->Az,mem_append_right->BK,append_nil->BM,nodup_cons->BR,length_nil->BW,eq_nil_of_length_eq_zero->Bd,mem_append->Bf,find?_cons->Bk,getElem?_eq_none->Bl,mem_cons_self->Bo,getElem?_set_ne->Br,mem_singleton->Bx,prefix_refl->CI,mem_flatten->CJ,filterMap_cons->CV,cons_append->Cb,map_map->Cf,replicate->Cq,take_of_length_le->Cv,length_take->DE,all_eq_true->DH,range->DN,lookup->DP,mem_map->DV,casesOn->DW,drop_of_length_le->DY,getElem?_replicate->Da,getElem?_set_self->Dc,reverse_cons->Di,append_assoc->Dl,sum_cons->Dn,flatten_append->Dp,take_append_of_le_length->Dr,sum_append->Dx,map_nil->EB,length_drop->EG,lookup_cons->EI,mem_append_left->EM,drop_eq_getElem_cons->ER,take_length->FA,zip_cons_cons->FD,length_replicate->FG,length_singleton->FH,getElem?_reverse->FI,any_cons->FQ,take_append_drop->FR,mem_iff_getElem?->FT,getElem?_set->Fb,nil_append->Fi,nodup_append->Fj,filter_append->GL,map->Gb,eraseIdxIfInBounds_toArray->Ge,of_mem_zip->Gv,length->Gw,any_eq_false->HD,ext_getElem?->HL,mem_or_eq_of_mem_set->Hb,getElem?_take_of_lt->Hf,any_eq_true->Hj,getElem?_cons_succ->Hm,filter_eq_nil_iff->IC,sum_nil->ID,reverse_reverse->IX,mem_iff_getElem->IY,length_reverse->Ij,map_congr_left->Im,reverse_append->Io,mem_filterMap->Ip,find?_toArray->Ix,take_sublist->JE,range'_succ->JS,drop_length->JT,map_reverse->JU,length_set->Ja,forIn_cons->Jb,take_left'->Je,getElem_mem->Jf,mapIdx_cons->Jm,mem_range->Jq,nodup_nil->Jt,take_succ->Jy,map_take->KQ,map_drop->KR,any_nil->Km,map_set->Kq,range'->LH,drop_zero->LV,filter->LY,drop->ME
open False renaming elim->AU
open Nat renaming le_refl->AX,lt_of_lt_of_le->Ah,le_trans->Ax,ne_of_lt->BI,zero_le->BU,pow_le_pow_right->BY,lt_irrefl->DJ,add_sub_cancel_left->DU,le_add_right->EW,lt_succ_of_lt->EY,min->FB,add_assoc->FL,min_le_right->FY,succ_ne_self->Fa,min_le_left->GM,ne_of_gt->GO,lt_succ_self->Gu,le_of_lt->HB,min_eq_left->HK,le_succ->Hr,lt_of_le_of_lt->JJ,add_sub_cancel->JL,min_eq_right->Jl,zero_add->Jn,pow_succ->Jo,mul_comm->Jp,le_of_eq->Ky,add_zero->LR,sub_zero->LU,add_comm->LX,not_lt->Ls,max_zero->MG
open PySem.Str renaming ofString->Ab
open List.cons renaming injEq->Ai
open PySem.Value renaming ref->Al,none->BX,int->Dy,str->Eh,type->Fv,isInt_shape->GN,isInt->Go,bool->HA,builtin->HR,isStrOf->HS,float->IF,isStrOf_shape->IR,bytes->KU
open Ne renaming symm->Ao
open PySem.PyData renaming eqv->As,depthAll->CS,eqvAll->DC,canLayAll0->DQ,canLay0->FF,depth->GB,strOk->Jw
open PySem.NameKind renaming free->Aw
open Option.some renaming inj->BA,injEq->Bj
open PyProof.Rows renaming callWith_type1->BH,slot_tuple_getitem->BS,Good->Do,AllBare->ES,slot_tuple_getitem->Ej,IntsAre->HH,envOfC->HV,IsTup->IG,Constant_none->Ia,subscriptTail->Ig,subscriptTail_builtinR->JH,Call_->JX,entry_tuple_getitem->Jr,args_tuple_getitem->KG,Subscript_->KH,callWith_builtin1->LZ,slicePart_none->Lp
open PySem.Builtin.SmallTypes renaming nextOf->Bb,ownedTupleIsFree->CU,ownedTupleHandOut->EL
open PySem.Obj renaming data_mapFields->Bc,isFreed_of_fields->Bw,mapSeq->GS,cls_mapFields->Gf,mapFields->Hl
open PySem.Builtin.Tuple renaming tupleHashOf->Be,tupleItemsOf->CO,tupleExact->Cd,tupleIsExact->LM
open ForInStep renaming yield->Bg
open Array renaming getElem?_eq_some_iff->Bi,length_toList->FX,toList_append->Fc,append_empty->Fy,getElem?_toList->Hv,forIn_toList->IZ,toList->KB
open PySem.Calls renaming callWith_builtin->Bq,evalArgs_plain->Cm,spliced_cons->DL,spliced_nil->EQ,Name_function_global->HC
open PyProof.Rows.KTD renaming datumAt->Bu
open True renaming intro->Bv
open PySem.F renaming store_ValueError->Bz,slot_tuple_iterator_next->Cz,slot_enumerate_next->Dq,slot_enumerate_getattribute->Dw,slot_tuple_hash->Ep,excBase_ValueError->GA,args_tuple_iterator_next_1->HX,entry_tuple_iterator_next->Hg,args_enumerate_next_1->IW,entry_enumerate_next->Ik,args_object_init_2->JK,entry_list_pop->KL,slot_list_pop->Kf,entry_bexc_ga->Kk,args_bexc_ga->LP
open Sum renaming inr->CD,inl->Gc
open PySem.Builtin.Slice renaming slicePlaces->CY,sliceAdjust->Dh,sliceApplied->Fx,slicePartIndex->LB,sliceFields->LC
open PySem.Heap.SameBut renaming update->Cc
open PySem.Builtin.Int renaming intBits->Db,intTooBig->Gx
open PySem.Builtin.List renaming listTooLong->Ds
open PySem.Stmt.FunctionDef renaming elim->EC
open Int renaming toNat_natCast->EZ,eq_ofNat_of_zero_le->Ex,toNat->Hz,emod_lt_of_pos->JP,emod_nonneg->Jx,pow_succ->LW,le_refl->Li
open PySem.Expr.Attribute renaming elim->Ec
open PySem.Expr.Subscript renaming elim->Ed
open PySem.Arg renaming arg->Ee
open PySem.Expr.ListComp renaming elim->Et
open PySem.Expr.Constant renaming elim->Eu
open PySem.Stmt.Continue renaming elim->Ew
open PySem.Expr.UnaryOp renaming elim->FJ
open PySem.Expr.Compare renaming elim->FK
open PySem.Expr.BoolOp renaming elim->Fe
open PySem.Stmt.Assign renaming elim->Fg
open PySem.Stmt.Return renaming elim->Fh
open Nat.succ renaming inj->Fs
open PySem.Expr.BinOp renaming elim->GD
open PySem.Expr.IfExp renaming elim->GE
open PySem.Expr.Tuple renaming elim->GF
open PySem.Expr.Slice renaming elim->GH
open PySem.Stmt.While renaming elim->GI
open PySem.Stmt.Raise renaming elim->GJ
open Char renaming toNat->GK
open Std.Legacy.Range renaming size->GV,forIn_eq_forIn_range'->Ju
open PySem.Builtin.Dict renaming updateFrom->Gg,missed->Lb,addKeywords->Le,pairItems->Lf,selfAndRest->Lg
open PySem.Expr.Dict renaming elim->Gh
open PySem.Expr.Call renaming elim->Gi
open PySem.Expr.Name renaming elim->Gj
open PySem.Expr.List renaming elim->Gk
open PySem.Stmt.Expr renaming elim->Gm
open PySem.Stmt.Pass renaming elim->Gn
open PySem.Stmt.For renaming elim->Gy
open PySem.Stmt.Try renaming elim->Gz
open PySem.EntryCells renaming newEntry->HY
open PySem.Stmt.If renaming elim->HZ
open PySem.Around renaming under->He,frames_deeper->Hs,under_plainId->IA
open Sum.inr renaming inj->Hk
open PySem.Code renaming isFrame->Hq,quiet_builtin->Iw,frames->Kz
open PySem.Heap.DictOf renaming new->Hx
open And renaming intro->IB
open PySem.BindsTo renaming of_defaults->IE
open PySem.CmpOp renaming NotIn->II
open PySem.Heap.Ns1 renaming of_empty->IL
open Int.ofNat renaming inj->Iy
open PySem.SeqAt renaming eqAt_reads->Iz,EqAt->LG
open String renaming reduceEq->JQ
open Prod.mk renaming injEq->JV
open PySem.W.Looks renaming here->JY
open PySem.Bind renaming checkArgs->Jv
open PySem.Heap.IsSliceOf renaming new->Kb
open PySem.W.WShape renaming has->Kh
open Eq renaming trans->Kl
open PySem.Builtin.Range renaming rangeSize->Kt
open LawfulBEq renaming eq_of_beq->LD
open List.Pairwise renaming nil->LF,map->LJ
open PUnit renaming unit->LQ
open PySem.W.WData renaming int->La
theorem oe1{α:Sort u}{p:α->Prop}{G:Prop}(h:∃a,p a)(k:∀a,p a->G):G:=h.elim k
theorem oe2{α:Sort u}{β:Sort v}{p:α->β->Prop}{G:Prop}(h:∃a b,p a b)(k:∀a b,p a b->G):G:=oe1 h λa h=>oe1 h (k a)
theorem oe3{α:Sort u}{β:Sort v}{γ:Sort w}{p:α->β->γ->Prop}{G:Prop}(h:∃a b c,p a b c)(k:∀a b c,p a b c->G):G:=oe1 h λa h=>oe2 h (k a)
theorem oe4{α:Sort u}{β:Sort v}{γ:Sort w}{δ:Sort x}{p:α->β->γ->δ->Prop}{G:Prop}(h:∃a b c d,p a b c d)(k:∀a b c d,p a b c d->G):G:=oe1 h λa h=>oe3 h (k a)
theorem oe5{α:Sort u}{β:Sort v}{γ:Sort w}{δ:Sort x}{ε:Sort y}{p:α->β->γ->δ->ε->Prop}{G:Prop}(h:∃a b c d e,p a b c d e)(k:∀a b c d e,p a b c d e->G):G:=oe1 h λa h=>oe4 h (k a)
theorem oe6{α:Sort u}{β:Sort v}{γ:Sort w}{δ:Sort x}{ε:Sort y}{ζ:Sort z}{p:α->β->γ->δ->ε->ζ->Prop}{G:Prop}(h:∃a b c d e f,p a b c d e f)(k:∀a b c d e f,p a b c d e f->G):G:=oe1 h λa h=>oe5 h (k a)
theorem oa2{A B G:Prop}(h:A∧B)(k:A->B->G):G:=k h.1 h.2
theorem oa3{A B C G:Prop}(h:A∧B∧C)(k:A->B->C->G):G:=oa2 h.2 (k h.1)
theorem oa4{A B C D G:Prop}(h:A∧B∧C∧D)(k:A->B->C->D->G):G:=oa3 h.2 (k h.1)
theorem oa5{A B C D E G:Prop}(h:A∧B∧C∧D∧E)(k:A->B->C->D->E->G):G:=oa4 h.2 (k h.1)
theorem oa6{A B C D E F G:Prop}(h:A∧B∧C∧D∧E∧F)(k:A->B->C->D->E->F->G):G:=oa5 h.2 (k h.1)
theorem oa7{A B C D E F H G:Prop}(h:A∧B∧C∧D∧E∧F∧H)(k:A->B->C->D->E->F->H->G):G:=oa6 h.2 (k h.1)
theorem oa8{A B C D E F H I G:Prop}(h:A∧B∧C∧D∧E∧F∧H∧I)(k:A->B->C->D->E->F->H->I->G):G:=oa7 h.2 (k h.1)
open Lean in
local macro_rules|`(tactic|obtain⟨$ps,*⟩:=$e:term)=>do
 let ps:=ps.getElems
 let n:=ps.size
 let rec br(f:Nat)(s:Syntax):Bool:=match f with
  |0=>false
  |f+1=>s.getKind==``Lean.Parser.Tactic.rcasesPatMed&&s[0].getArgs.size>1||s.getArgs.any (br f)
 if n<2||ps.any (br 20 ·) then
  Macro.throwUnsupported
 let rec pl(f:Nat)(s:Syntax):Syntax:=match f with
  |0=>s
  |f+1=>if s.isIdent then s else if s.getArgs.size==1&&s.getKind != ``Lean.Parser.Tactic.rcasesPat.ignore||s.getArgs.size==2&&s[1].getArgs.size==0 then pl f s[0] else s
 let mut ts:Array (Array (TSyntax `tactic)):=#[]
 for p in ps do
  let q:=pl 8 p.raw
  let j ← withFreshMacroScope `(z)
  let j:Ident:=⟨j.raw⟩
  if q.isIdent&&q.getId != `rfl then
   ts:=ts.push #[← `(tactic|intro $(⟨q⟩):ident)]
  else
   ts:=ts.push #[← `(tactic|intro $j:ident),← if q.isIdent then `(tactic|subst $j:ident) else if q.getKind==``Lean.Parser.Tactic.rcasesPat.ignore then `(tactic|skip) else if p.raw[1].getArgs.size==0 then `(tactic|obtain $(⟨p.raw[0]⟩):rcasesPatMed:=$j:ident) else `(tactic|rcases $j:ident with $p:rcasesPatLo)]
 let cl ← if e.raw.isIdent then `(tactic|try clear $(⟨e.raw⟩):ident) else `(tactic|skip)
 let mut al:Array (TSyntax ``Lean.Parser.Tactic.tacticSeq):=#[]
 for (c,b,t) in [("oe",1,6),("oa",2,8)] do
  for k' in [0:t] do
   let k:=t-k'
   let u:=if c=="oe" then k+1 else k
   if b<=k&&u<=n then
    let x:=mkIdent (.str .anonymous s!"{c}{k}")
    let mut pp:=(ts.extract 0 (if u==n then n else u-1)).foldl (·++·) #[]
    if u<n then
     let rs:=ps.extract (u-1) n
     pp:=pp ++ #[← `(tactic|intro h),← `(tactic|obtain⟨$rs,*⟩:=h)]
    al:=al.push (← `(Lean.Parser.Tactic.tacticSeq|refine $x $e ?_;$cl;$[$pp]*))
 `(tactic|first $[|$al]*|rcases $e:term with⟨$(ps),*⟩)
namespace PySem
noncomputable instance decPyData:DecidableEq Ac:=λa b=>Classical.propDecidable (a=b)
namespace NK
mutual
noncomputable def lit:Ac->Bool
 |.int _=>AC
 |.str x=>FF (.str x)
 |.tuple ds=>lits ds
 |_=>AG
noncomputable def lits:List Ac->Bool
 |[]=>AC
 |d::r=>lit d&&lits r
end
mutual
theorem aq0:∀d:Ac,lit d=AC->d.canLay0=AC
 |.int _,_=>rfl
 |.str _,h=>h
 |.tuple ds,h=>by rw[FF];exact a57 ds h
 |.none,h=>nomatch h
 |.bool _,h=>nomatch h
 |.list _,h=>nomatch h
 |.dict _,h=>nomatch h
theorem a57:∀ds:List Ac,lits ds=AC->DQ ds=AC
 |[],_=>rfl
 |d::r,h=>by
  have h':lit d=AC/\lits r=AC:=by simpa[lits]using h
  show(d.canLay0&&DQ r)=AC;rw[aq0 d h'.1,a57 r h'.2];rfl
end
mutual
theorem eqv_lit:∀x y:Ac,lit x=AC->lit y=AC->(As x y=AC↔x=y)
 |.int i,.int j,_,_=>by rw[As];simp
 |.int i,.str y,_,_=>by simp[As]
 |.int i,.tuple ys,_,_=>by simp[As]
 |.str x,.int j,_,_=>by simp[As]
 |.str x,.str y,_,_=>by rw[As];simp
 |.str x,.tuple ys,_,_=>by simp[As]
 |.tuple xs,.int j,_,_=>by simp[As]
 |.tuple xs,.str y,_,_=>by simp[As]
 |.tuple xs,.tuple ys,hx,hy=>by rw[As,a82 xs ys hx hy];simp
 |.none,_,h,_=>nomatch h
 |.bool _,_,h,_=>nomatch h
 |.list _,_,h,_=>nomatch h
 |.dict _,_,h,_=>nomatch h
 |_,.none,_,h=>nomatch h
 |_,.bool _,_,h=>nomatch h
 |_,.list _,_,h=>nomatch h
 |_,.dict _,_,h=>nomatch h
theorem a82:∀xs ys:List Ac,lits xs=AC->lits ys=AC->(DC xs ys=AC↔xs=ys)
 |[],[],_,_=>by simp[DC]
 |[],y::ys,_,_=>by simp[DC]
 |x::xs,[],_,_=>by simp[DC]
 |x::xs,y::ys,hx,hy=>by
  have hx':lit x=AC/\lits xs=AC:=by simpa[lits]using hx
  have hy':lit y=AC/\lits ys=AC:=by simpa[lits]using hy
  rw[DC,BD,eqv_lit x y hx'.1 hy'.1,a82 xs ys hx'.2 hy'.2];simp
end
theorem ao5:∀{ds},lits ds=AC->∀d∈ds,lit d=AC
 |[],_,d,h=>by cases h
 |e::r,a,d,h=>by
  have h':=by simpa[lits]using a
  rcases AR.mp h with rfl|h
  ·exact h'.1
  ·exact ao5 h'.2 d h
theorem an1:∀{ds}{d},d∈ds->d.depth<=CS ds
 |e::r,d,h=>by
  show d.depth<=max e.depth (CS r)
  rcases AR.mp h with rfl|h
  ·lia
  ·have:=an1 h;lia
def depth_tup{ds}:(PyData.tuple ds).depth=CS ds+1:=by rw[GB]
mutual
theorem be3{h:Au}:∀(x y:Ac){v:AF}{as bs:List AI},lit x=AC->lit y=AC->Reads h v x as->Reads h v y bs->x=y
 |.int i,y,v,as,bs,_,hy,rx,ry=>by
  cases rx;cases ry;rfl
 |.str x,y,v,as,bs,_,hy,rx,ry=>by
  cases rx;cases ry;rfl
 |.tuple xs,y,v,as,bs,hx,hy,rx,ry=>by
  cases rx with
  |tuple e1 e2 e3 e4=>
   cases ry with
   |tuple f1 f2 f3 f4=>
    rw[e1]at f1;cases f1;rw[e3]at f3;cases f3;rw[bc7 xs _ hx hy e4 f4]
   |list=>cases hy
   |dict=>cases hy
 |.none,_,_,_,_,h,_,_,_=>nomatch h
 |.bool _,_,_,_,_,h,_,_,_=>nomatch h
 |.list _,_,_,_,_,h,_,_,_=>nomatch h
 |.dict _,_,_,_,_,h,_,_,_=>nomatch h
theorem bc7{h:Au}:∀(xs ys:List Ac){vs:List AF}{as bs:List AI},lits xs=AC->lits ys=AC->ReadsAll h vs xs as->ReadsAll h vs ys bs->xs=ys
 |[],ys,vs,as,bs,_,_,rx,ry=>by cases rx;cases ry;rfl
 |x::xs,ys,vs,as,bs,hx,hy,rx,ry=>by
  cases rx with
  |cons r1 r2=>cases ry with
   |@cons _ _ y ys _ _ q1 q2=>
    have hx':lit x=AC/\lits xs=AC:=by simpa[lits]using hx
    have hy':lit y=AC/\lits ys=AC:=by simpa[lits]using hy
    rw[be3 x y hx'.1 hy'.1 r1 q1,bc7 xs ys hx'.2 hy'.2 r2 q2]
end
mutual
theorem ba4{h h':Au}{d:AI}{o:Obj}{es:Array Dt}{ep:Nat}(ho:h.get? d=AA o)(hd:o.data=.dict es ep)(hs:BB d h h'):∀(x:Ac){v:AF}{as:List AI},lit x=AC->Reads h v x as->∃bs,Reads h' v x bs
 |.int i,v,as,_,r=>by cases r;exact⟨_,.int _ _⟩
 |.str x,v,as,_,r=>by cases r;exact⟨_,.str _ _⟩
 |.tuple xs,v,as,hx,r=>by
  cases r with
  |@tuple a o' _ _ _ _ e1 e2 e3 e4=>
   have hne:a≠d:=by
    rintro rfl;rw[e1]at ho;cases ho;rw[hd]at e3;exact nomatch e3
   obtain⟨bs,r'⟩:=a66 ho hd hs xs hx e4;exact⟨_,.tuple ((hs.2 a hne).trans e1) e2 e3 r'⟩
 |.none,_,_,h,_=>nomatch h
 |.bool _,_,_,h,_=>nomatch h
 |.list _,_,_,h,_=>nomatch h
 |.dict _,_,_,h,_=>nomatch h
theorem a66{h h':Au}{d:AI}{o:Obj}{es:Array Dt}{ep:Nat}(ho:h.get? d=AA o)(hd:o.data=.dict es ep)(hs:BB d h h'):∀(xs:List Ac){vs:List AF}{as:List AI},lits xs=AC->ReadsAll h vs xs as->∃bs,ReadsAll h' vs xs bs
 |[],vs,as,_,r=>by cases r;exact⟨_,.nil⟩
 |x::xs,vs,as,hx,r=>by
  cases r with
  |cons r1 r2=>
   have hx':lit x=AC/\lits xs=AC:=by simpa[lits]using hx
   obtain⟨b1,q1⟩:=ba4 ho hd hs x hx'.1 r1;obtain⟨b2,q2⟩:=a66 ho hd hs xs hx'.2 r2;exact⟨_,.cons q1 q2⟩
end
mutual
noncomputable def hK(w:At):Ac->Int
 |.int i=>hashInt i
 |.str x=>hashStr w x
 |.tuple ds=>reduceHash (Be (hKs w ds))
 |_=>0
noncomputable def hKs(w:At):List Ac->List Int
 |[]=>[]
 |d::r=>hK w d::hKs w r
end
mutual
noncomputable def dw:Ac->Nat
 |.tuple ds=>dws ds+1
 |_=>1
noncomputable def dws:List Ac->Nat
 |[]=>0
 |d::r=>dw d+dws r
end
theorem ap1 w:∀a b,hKs w (a++b)=hKs w a++hKs w b
 |[],b=>rfl
 |x::a,b=>by rw[Cb,hKs,ap1 w a b];rfl
theorem aq9:∀a b,dws (a++b)=dws a+dws b
 |[],b=>by simp[dws]
 |x::a,b=>by rw[Cb,dws,aq9 a b,dws,FL]
variable {prog:AZ} {w:At}
def cc9:∀(n:Nat)(d:Ac),d.depth<=n->lit d=AC->∀{A:BG}{E:AF->AJ->Prop}{s:AJ}{v:AF}{y:List AI}{Q:Int->AJ->Prop},A.units+n<CG->Reads s.heap v d y->Q (hK w d) {s with toks:=s.toks+dw d}->AQ (model prog w) A (pyHash v) Q E s:=by
 intro n
 induction n with
 |zero=>
  intro d hd c A E s v y Q hu r h;cases r with
  |int i t=>exact HQ (by simpa[hK,dw]using h)
  |str x t=>exact FM (by simpa[hK,dw]using h)
  |tuple=>rw[depth_tup]at hd;lia
  |none=>cases c
  |bool=>cases c
  |list=>cases c
  |dict=>cases c
 |succ n ih=>
  intro d hd c A E s v y Q hu r h;cases r with
  |int i t=>exact HQ (by simpa[hK,dw]using h)
  |str x t=>exact FM (by simpa[hK,dw]using h)
  |none=>cases c
  |bool=>cases c
  |list=>cases c
  |dict=>cases c
  |@tuple a o items m z y ho hc hda hi=>
   rw[depth_tup]at hd;have hl':lits z=AC:=c;have u:s.TypeIs (.ref a) "tuple":=⟨o,ho,hc⟩;unfold pyHash
   first|refine AD (wpAny_cRoomFor_or (.inr ⋯) ?_)|skip
   refine AD (Ch u Ep.lookup ?_);rw[if_neg (by rw[Kr];exact AH)];refine AD (Ch u Ep.lookup ?_);refine AD (wpAny_callSpecialIfBoundUnlessNone?_slot u Ep (BL Ep u F.entry_tuple_hash ?_ (F.args_tuple_hash_1 _)));show AQ _ _ (CO (.ref a)>>=_) _ _ s;refine AD (wpAny_tupleItemsOf ho hda ?_);refine AD ?_;rw[<-IZ];refine Ks _
    (λj7(b:Array Int)s'=>∃done left bs,z=done++left/\ReadsAll s.heap j7 left bs/\b.toList=hKs w done/\s'={s with toks:=s.toks+dws done})
    _ ?_ ?_ _ _ ⟨[],z,_,rfl,hi,rfl,rfl⟩
   ·rintro x j7 b s' ⟨done,left,bs,rfl,hl2,hb,rfl⟩;cases hl2 with
    |@cons _ _ k f _ _ h1 j=>
     have hk:k∈done++k::f:=by simp
     refine AD (ih k (by have:=an1 hk;lia) (ao5 hl' k hk) ?_ h1 ?_)
     ·show A.units+1+n<CG;lia
     first
      |exact AL ⟨done++[k],f,_,∎,j,by rw[ap1];simp[hb,hKs],by simp[aq9,dws,FL]⟩
      |exact AD (AL (AL ⟨done++[k],f,_,∎,j,by rw[ap1];simp[hb,hKs],by simp[aq9,dws,FL]⟩))
   ·rintro b s' ⟨done,left,bs,rfl,hl2,hb,rfl⟩;cases hl2;rw[BM]at h;simp only[hK,dw]at h;show AQ _ _ (retInt (Be b.toList)) _ _ _;rw[hb];refine wpAny_ret_mkInt ?_;show AQ _ _ (if(AB (-(2:Int)^63<=Be (hKs w done))&&AB (Be (hKs w done)<2^63))=AC then _ else _) Q E _;unfold reduceHash at h
    by_cases q:(AB (-(2:Int)^63<=Be (hKs w done))&&AB (Be (hKs w done)<2^63))=AC
    ·rw[if_pos q];rw[if_pos q]at h;exact AL (by simpa[FL]using h)
    ·rw[if_neg q];rw[if_neg q]at h;exact AD (Ef (AL (by simpa[FL]using h)))
def bx5:∀n(d),d.depth<=n->lit d=AC->∀{A}{E}{s}{v}{j}{Q},Reads s.heap v d j->Q AC s->AQ (model prog w) A (eqIsQuiet n v) Q E s:=by
 intro n
 induction n with
 |zero=>
  intro d C b A E s v j Q r h;cases r with
  |int i t=>exact AL h
  |str x t=>exact AL h
  |tuple=>rw[depth_tup]at C;lia
  |none=>cases b
  |bool=>cases b
  |list=>cases b
  |dict=>cases b
 |succ n ih=>
  intro d C b A E s v j Q r h;cases r with
  |int i t=>exact AL h
  |str x t=>exact AL h
  |none=>cases b
  |bool=>cases b
  |list=>cases b
  |dict=>cases b
  |@tuple a o items m xs j ho hc B hi=>
   rw[depth_tup]at C;have z:=b;have hT:s.TypeIs (.ref a) "tuple":=⟨o,ho,hc⟩;unfold eqIsQuiet;refine AD (Ch hT F.slot_tuple_eq.lookup ?_);refine AD (FN hT isSubtype_tuple_tuple ?_);refine AD (Eg ho B ?_);refine AD ?_;rw[<-IZ];refine Ks _ (λj7 r s'=>r.1=AE/\s'=s/\∃left bs,(∀k∈left,lit k=AC/\k.depth<=n)/\ReadsAll s.heap j7 left bs) _ ?_ ?_ _ _ ⟨rfl,rfl,xs,_,λk hk=>⟨ao5 z k hk,by have:=an1 hk;lia⟩,hi⟩
   ·rintro v j7 r s' ⟨hr,rfl,left,bs,hall,hl2⟩;cases hl2 with
    |@cons _ _ k p _ _ h1 y=>
     obtain⟨k1,k2⟩:=hall k ∎;refine AD (ih k k2 k1 h1 ?_);exact AL ⟨rfl,rfl,p,_,λu hu'=>hall u (by simp[hu']),y⟩
   ·rintro⟨r1,r2⟩ s' ⟨hr,rfl,_⟩;subst hr;exact AL h
abbrev isK(h:Au)(k:Ac)(a:AI):Prop:=lit k=AC/\k.depth<=7/\∃as,Reads h (.ref a) k as
abbrev dataKind(prog:AZ)(w:At):HeapKind prog w Ac where
 is:=isK
 hash:=hK w
 draws:=dw
 room:=λA=>A.units+8<CG
 inj:=λ⟨l1,_,_,r1⟩⟨l2,_,_,r2⟩=>be3 _ _ l1 l2 r1 r2
 keeps:=λ⟨l1,d1,_,r1⟩ho hd hs=>⟨l1,d1,ba4 ho hd hs _ l1 r1⟩
 pyHash:=λhu⟨l1,d1,_,r1⟩h=>cc9 7 _ d1 l1 ⋯ r1 h
 eqBool:=λ{A E s x y a b Q}hu⟨l1,d1,_,r1⟩⟨l2,d2,_,r2⟩h=>by
  have e:As x y=AB (x=y):=by
   by_cases z:x=y
   ·rw[decide_eq_true z];exact(eqv_lit x y l1 l2).mpr z
   ·rw[decide_eq_false z];cases q:As x y with
    |false=>rfl
    |true=>exact absurd ((eqv_lit x y l1 l2).mp q) z
  have:=Iz x y A s _ _ _ _ r1 r2 (aq0 x l1) (aq0 y l2) (by have:min x.depth y.depth<=x.depth:=GM _ _;lia);rw[e]at this;exact this prog w E Q h
 quiet:=λ⟨l1,d1,_,r1⟩h=>bx5 8 _ ⋯ l1 r1 h
def dataKind_room_in1{prog}{w}{A:BG}(h:A.units+20<CG):(dataKind prog w).room A.in1:=by
 show A.units+1+8<CG;lia
end NK
end PySem
set_option maxRecDepth 100000
namespace L2
open PySem PySem.Spec PyProof.Rows
section
@[reducible]noncomputable def Key:=Sum Int Str
abbrev X4:Key->AF->Bool
 |.inl k,v=>Go k v
 |.inr x,v=>HS x v
abbrev db1(w:At):Key->Int
 |.inl k=>hashInt k
 |.inr x=>hashStr w x
def M8:∀{k}{v},X4 k v=AC->(∃i t,k=Gc i/\v=Dy i t)\/∃x t,k=CD x/\v=Eh x t
 |.inl i,v,h=>by
  obtain⟨t,e⟩:=GN h;exact .inl ⟨i,t,rfl,e⟩
 |.inr x,v,h=>by
  obtain⟨t,e⟩:=IR h;exact .inr ⟨x,t,rfl,e⟩
def bu4(i)t:X4 (.inl i) (.int i t)=AC:=by simp[X4,Go]
def bw4(x)t:X4 (.inr x) (.str x t)=AC:=by simp[X4,HS]
def cu9 a b:AB ((Gc a:Key)=Gc b)=(a==b):=by
 by_cases e:a=b
 ·subst e;simp
 ·simp_all
def ci8 a b:AB ((CD a:Key)=CD b)=AB (a=b):=by
 ·simp
def cq7(a:Int)(b:Str):AB (Gc a=CD b)=AG:=decide_eq_false λq=>nomatch q
def cv7(a:Str)(b:Int):AB (CD a=Gc b)=AG:=decide_eq_false λq=>nomatch q
abbrev A0(prog:AZ)(w:At):PySem.KeyKind prog w Key where
 is:=X4
 hash:=db1 w
 inj:=λv a b ha hb=>by
  rcases M8 ha with⟨i,t,rfl,rfl⟩|⟨x,t,rfl,rfl⟩
  ·rcases M8 hb with⟨j,u,rfl,e⟩|⟨y,u,rfl,e⟩
   ·injection e with e1 _;rw[e1]
   ·exact nomatch e
  ·rcases M8 hb with⟨j,u,rfl,e⟩|⟨y,u,rfl,e⟩
   ·exact nomatch e
   ·injection e with e1 _;rw[e1]
 byValue:=λk v h=>by
  rcases M8 h with⟨i,t,rfl,rfl⟩|⟨x,t,rfl,rfl⟩<;>rfl
 pyHash:=λhv h=>by
  rcases M8 hv with⟨i,t,rfl,rfl⟩|⟨x,t,rfl,rfl⟩
  ·exact HQ h
  ·exact FM h
 eqBool:=λhu hv h=>by
  rcases M8 hu with⟨i,t,rfl,rfl⟩|⟨x,t,rfl,rfl⟩
  ·rcases M8 hv with⟨j,u,rfl,rfl⟩|⟨y,u,rfl,rfl⟩
   ·rw[cu9]at h;exact wpAny_eqBool_int h
   ·rw[cq7]at h;exact SeqAt.EqAt.int_str i t y u _ _ _ _ h
  ·rcases M8 hv with⟨j,u,rfl,rfl⟩|⟨y,u,rfl,rfl⟩
   ·rw[cv7]at h;exact SeqAt.EqAt.str_int x t j u _ _ _ _ h
   ·rw[ci8]at h;exact wpAny_eqBool_str h
 «strs»:=λk x t v h=>by
  rcases M8 h with⟨i,u,rfl,e⟩|⟨y,u,rfl,e⟩
  ·exact nomatch e
  ·injection e with e1 _
   subst e1;cases v<;>rfl
def bp0 prog(w)(i)t:(A0 prog w).is (.inl i) (.int i t)=AC:=bu4 i t
def bo8 prog(w)(x)t:(A0 prog w).is (.inr x) (.str x t)=AC:=bw4 x t
variable{a b:AI}{h h':Au}{P:AZ}{w:At}
inductive V where
 |non|bl (b:Bool)|int (i:Int)|str (x:Str)|byt (b:Array UInt8)|flt (b:UInt64)|ref (a:AI)|ty (n:String)
 deriving DecidableEq
abbrev i7:V->AF->Prop
 |.non,u=>u=BX
 |.bl b,u=>u=HA b
 |.int i,u=>∃t,u=Dy i t
 |.str x,u=>∃t,u=Eh x t
 |.byt b,u=>∃t,u=KU b t
 |.flt b,u=>∃t,u=IF b t
 |.ref a,u=>u=Al a
 |.ty n,u=>u=Fv n
@[reducible]noncomputable def g9:List V->List AF->Prop:=Paired i7
theorem g9.length{xs}{us}(r:g9 xs us):xs.length=us.length:=Paired.length r
theorem g9.get:∀{a}{us}{i:Nat}{x},g9 a us->a[i]?=AA x->∃u,us[i]?=AA u/\i7 x u
 |_,_,_,_,.nil,e=>by simp at e
 |_,_,0,_,.cons r _,e=>by simp_all
 |_,_,i+1,x,.cons _ t,e=>by
  obtain⟨u,c,b⟩:=g9.get t (by simpa using e);simp_all
theorem g9.set{x}{u}(r:i7 x u):∀{a}{us}i,g9 a us->g9 (a.set i x) (us.set i u)
 |_,_,_,.nil=>.nil
 |_,_,0,.cons _ t=>.cons r t
 |_,_,i+1,.cons q t=>.cons q (g9.set r i t)
theorem g9.append:∀{b a}{us c},g9 b us->g9 a c->g9 (b++a) (us++c)
 |_,_,_,_,.nil,s=>s
 |_,_,_,_,.cons r t,s=>.cons r (g9.append t s)
theorem g9.take:∀{a}{us}n,g9 a us->g9 (a.take n) (us.take n)
 |_,_,0,_=>.nil
 |_,_,_+1,.nil=>.nil
 |_,_,n+1,.cons r t=>.cons r (g9.take n t)
theorem g9.drop:∀{a}{us}n,g9 a us->g9 (a.drop n) (us.drop n)
 |_,_,0,r=>r
 |_,_,_+1,.nil=>.nil
 |_,_,n+1,.cons _ t=>g9.drop n t
abbrev A7:Option V->Option AF->Prop
 |some v,AA u=>i7 v u
 |none,AE=>True
 |_,_=>False
abbrev KV{κ:Type}:List (κ×V)->List (κ×AF)->Prop:=Paired λ(p:κ×V)(q:κ×AF)=>p.1=q.1/\i7 p.2 q.2
abbrev kV:Key->V
 |.inl i=>.int i
 |.inr x=>.str x
inductive HO where
 |lst (xs:List V)
 |tup (xs:List V)
 |dK (kvs:List (Key×V))|dT (kvs:List (Ac×V))
 |set (S:Int->Bool) (n:Nat)
 |ins (C dx:AI) (fs:List (Str×V))
 |own (x:AI)
 |xd (fs:List (Str×V))
 |met (f x:AI)
 |rng (lo hi:Int)
 |frz (o:Obj) (u:HO)
 |tbl (ps:Array AF)
 |ext (φ:Au->Prop)
variable{o:HO}
@[reducible]noncomputable def Hp:=AI->Option HO
variable{H:Hp}
abbrev upd(H:Hp)(a:AI)(o:HO):Hp:=λb=>if b=a then AA o else H b
def o0:upd H a o a=AA o:=by unfold upd;rw[if_pos rfl]
def f9(h:b≠a):upd H a o b=H b:=by unfold upd;rw[if_neg h]
def c29{u}(h:H a=AA o)(h':H b=AA u)(d:o≠u):a≠b:=by
 intro e;simp_all
def o7(h:H a=AA o)(h':H b=AE):a≠b:=by
 grind
mutual
noncomputable def HRd(H:Hp):Ac->V->Prop
 |.int i,v=>v=.int i
 |.str x,v=>v=.str x
 |.tuple ds,v=>∃a vs,v=.ref a/\H a=AA (.tup vs)/\O5 H ds vs
 |_,_=>False
noncomputable def O5(H:Hp):List Ac->List V->Prop
 |[],vs=>vs=[]
 |d::ds,vs=>∃v r,vs=v::r/\HRd H d v/\O5 H ds r
end
mutual
theorem HRd.keeps{H H':Hp}(ht:∀b ys,H b=AA (.tup ys)->H' b=AA (.tup ys)):∀(d:Ac){v:V},HRd H d v->HRd H' d v
 |.int i,v,h=>h
 |.str x,v,h=>h
 |.tuple ds,v,h=>let⟨a,vs,e,h1,h2⟩:=h;⟨a,vs,e,ht a vs h1,O5.keeps ht ds h2⟩
 |.none,_,h=>h.elim
 |.bool _,_,h=>h.elim
 |.list _,_,h=>h.elim
 |.dict _,_,h=>h.elim
theorem O5.keeps{H H':Hp}(ht:∀b ys,H b=AA (.tup ys)->H' b=AA (.tup ys)):∀(ds:List Ac){vs:List V},O5 H ds vs->O5 H' ds vs
 |[],vs,h=>h
 |d::ds,vs,h=>let⟨v,r,e,h1,h2⟩:=h;⟨v,r,e,HRd.keeps ht d h1,O5.keeps ht ds h2⟩
end
abbrev F8(H:Hp)(d:Ac)(b:AI):Prop:=NK.lit d=AC/\d.depth<=7/\HRd H d (.ref b)
theorem F8.keeps{H'}{d}(h:F8 H d b)(c:∀b a,H b=AA (.tup a)->H' b=AA (.tup a)):F8 H' d b:=⟨h.1,h.2.1,HRd.keeps c d h.2.2⟩
abbrev E7(h:Au)(a:AI)(items:Array AF):Prop:=∃o,h.get? a=AA o/\o.cls=.type "tuple"/\o.dict=AE/\∃n,o.data=.seq items n
def E7.tup{items}(x:E7 h a items):IG h a items:=let⟨o,e,c,_,d⟩:=x;⟨o,e,c,d⟩
def E7.lt{items}(x:E7 h a items):=let⟨_,e,_⟩:=x;Aq e
def E7.new(h:Au)items:E7 (h.push {cls:=.type "tuple",data:=.seq items}) h.objs.size items:=⟨_,Ar _ rfl,rfl,rfl,_,rfl⟩
section
variable (P:AZ) (w:At)
abbrev l8(H:Hp)(h:Au)(a:AI):HO->Prop
 |.lst xs=>xs.length<=sizeLine/\∃(its:List AF)(n:Nat),g9 xs its/\h.get? a=AA {cls:=.type "list",data:=.seq its.toArray n}
 |.tup xs=>xs.length<=sizeLine/\∃its:List AF,g9 xs its/\E7 h a its.toArray
 |.dK kvs=>kvs.length<=sizeLine/\(a==CK)=AG/\∃vs,KV kvs vs/\h.DictOf (A0 P w) a vs
 |.dT kvs=>kvs.length<=sizeLine/\(a==CK)=AG/\∃xs:List (Ac×AI×AF),
   Paired (λ(p:Ac×V)(q:Ac×AI×AF)=>p.1=q.1/\F8 H p.1 q.2.1/\i7 p.2 q.2.2) kvs xs /\
   ∃o es ep,h.get? a=AA o/\o.ExactDict/\o.data=.dict es ep/\es.toList=xs.map (entryOfKey (NK.dataKind P w))/\(xs.map (·.1)).Nodup
 |.set S n=>h.SetOf (intKind P w) a S n
 |.ins C dx fs=>H dx=AA (.own a)/\fs.length<=1000/\dx≠a/\h.get? a=AA (EN C dx) /\
   ∃mA,h.Ns1 dx mA/\(∀f,A7 (fs.lookup f) (mA f))/\PySem.Within mA (fs.map (·.1))
 |.own _=>∃o,h.get? a=AA o
 |.xd fs=>∃mA,h.Ns1 a mA/\∀f,A7 (fs.lookup f) (mA f)
 |.rng lo hi=>∃t u v,h.get? a=AA {cls:=.type "range",data:=.fields #[.int lo t,.int hi u,.int 1 v]}
 |.frz o u=>h.get? a=AA o/\l8 H h a u
 |.tbl ps=>h.get? a=AA {cls:=.none,data:=.fields ps}
 |.met f x=>h.get? a=AA (JA (.ref f) (.ref x))
 |.ext φ=>φ h/\(∃o,h.get? a=AA o)/\∀h1 h2:Au,φ h1->(∀o,h1.get? a=AA o->h2.get? a=AA o)->φ h2
abbrev HOk(H:Hp)(h:Au):Prop:=∀a o,H a=AA o->l8 P w H h a o
end
section
variable {H':Hp} 
theorem l8.lt(x:l8 P w H h a o):a<h.objs.size:=by
 cases o with
 |lst c=>obtain⟨_,_,_,_,e⟩:=x;exact Aq e
 |tup c=>obtain⟨_,_,_,p⟩:=x;exact p.lt
 |dK b=>obtain⟨_,_,_,_,o,_,_,e,_⟩:=x;exact Aq e
 |dT b=>obtain⟨_,_,_,_,o,_,_,e,_⟩:=x;exact Aq e
 |set S n=>obtain⟨o,_,_,_,e,_⟩:=x;exact Aq e
 |ins C dx r=>obtain⟨_,_,_,e,_⟩:=x;exact Aq e
 |own y=>obtain⟨_,e⟩:=x;exact Aq e
 |xd r=>obtain⟨_,⟨_,_,_,e,_⟩,_⟩:=x;exact Aq e
 |rng lo hi=>obtain⟨_,_,_,e⟩:=x;exact Aq e
 |frz ob u=>obtain⟨e,_⟩:=x;exact Aq e
 |tbl ps=>exact Aq ((x))
 |met f y=>exact Aq ((x))
 |ext t=>obtain⟨_,⟨_,e⟩,_⟩:=x;exact Aq e
theorem Paired.mapP{α β}{F G}:∀{l₁:List α}{l₂:List β},Paired F l₁ l₂->(∀a b,F a b->G a b)->Paired G l₁ l₂
 |_,_,.nil,_=>.nil
 |_,_,.cons r t,f=>.cons (f _ _ r) (Paired.mapP t f)
def l8.stay(x:l8 P w H h a o)(k:∀b u,b=a\/H b=AA (.own a)->h.get? b=AA u->h'.get? b=AA u)
  (O:∀b,H b=AA (.own a)->H' b=AA (.own a)) (N:∀b l,H b=AA (.tup l)->H' b=AA (.tup l)):l8 P w H' h' a o:=by
 induction o with
 |lst l=>obtain⟨z,j,n,r,e⟩:=x;exact⟨z,j,n,r,k _ _ (.inl rfl) e⟩
 |tup l=>obtain⟨z,j,r,ob,e,c⟩:=x;exact⟨z,j,r,ob,k _ _ (.inl rfl) e,c⟩
 |dK A=>obtain⟨z,y,vs,r,ob,g,i,e,c⟩:=x;exact⟨z,y,vs,r,ob,g,i,k _ _ (.inl rfl) e,c⟩
 |dT A=>
  obtain⟨z,y,l,r,ob,g,i,e,c⟩:=x;exact⟨z,y,l,Paired.mapP r λp q z=>⟨z.1,z.2.1.keeps N,z.2.2⟩,ob,g,i,k _ _ (.inl rfl) e,c⟩
 |set S n=>obtain⟨ob,g,i,t,e,c⟩:=x;exact⟨ob,g,i,t,k _ _ (.inl rfl) e,c⟩
 |ins C dx fs=>
  obtain⟨d,z,I,e,s,⟨m,g,i,e2,c⟩,r⟩:=x;exact⟨O _ d,z,I,k _ _ (.inl rfl) e,s,⟨m,g,i,k _ _ (.inr d) e2,c⟩,r⟩
 |own y=>obtain⟨ob,e⟩:=x;exact⟨ob,k _ _ (.inl rfl) e⟩
 |xd fs=>obtain⟨s,⟨m,g,i,e,c⟩,r⟩:=x;exact⟨s,⟨m,g,i,k _ _ (.inl rfl) e,c⟩,r⟩
 |rng lo hi=>obtain⟨t,u,v,e⟩:=x;exact⟨t,u,v,k _ _ (.inl rfl) e⟩
 |frz ob u M=>obtain⟨e,q⟩:=x;exact⟨k _ _ (.inl rfl) e,M q⟩
 |tbl ps=>
  have e:=x;exact k a _ (.inl rfl) e
 |met f y=>
  have e:=x;exact k a _ (.inl rfl) e
 |ext φ=>obtain⟨p,⟨o,e⟩,st⟩:=x;exact⟨st _ _ p λo=>k _ _ (.inl rfl),⟨o,k _ _ (.inl rfl) e⟩,st⟩
theorem HOk.lt(x:HOk P w H h)(e:H a=AA o):a<h.objs.size:=(x a o e).lt
def HOk.fresh(x:HOk P w H h)(e:h.objs.size<=a):H a=AE:=by
 cases q:H a with
 |none=>rfl
 |some u=>exact absurd (Ah (x.lt q) e) (DJ _)
def HOk.kept(x:HOk P w H h)(k:∀b u,h.get? b=AA u->h'.get? b=AA u):HOk P w H h':=λa o e=>
 (x a o e).stay (λb u _=>k b u) (λ_ q=>q) λ_ _ q=>q
def HOk.laid(x:HOk P w H h)(k:∀b u,h.get? b=AA u->h'.get? b=AA u)(i:h.objs.size<=a)(d:l8 P w (upd H a o) h' a o):HOk P w (upd H a o) h':=λb u e=>by
 have f:=x.fresh i
 by_cases g:b=a
 ·subst g;rw[o0]at e;cases e;exact d
 ·rw[f9 g]at e;exact(x b u e).stay (λc v _=>k c v) (λc q=>(f9 (o7 q f)▸q)) λc xs q=>f9 (o7 q f)▸q
end
abbrev Rd(H:Hp)(a:AI)(u:HO):Prop:=H a=AA u\/∃o,H a=AA (.frz o u)
def Rd.ok{u}(r:Rd H a u)(x:HOk P w H h):l8 P w H h a u:=by
 rcases r with r|⟨o,r⟩
 ·exact x a u r
 ·obtain⟨_,q⟩:=x a _ r;exact q
abbrev Mut:Option HO->Prop
 |some (.lst _)=>True
 |some (.dK _)=>True
 |some (.dT _)=>True
 |some (.set _ _)=>True
 |some (.ins _ _ _)=>True
 |some (.ext _)=>True
 |_=>False
section
variable {x e:AI} {o':HO}
def HOk.write(p:HOk P w H h)(m:Mut (H x))(t:e=x\/H e=AA (.own x))(k:∀b u,b≠e->h.get? b=AA u->h'.get? b=AA u)(i:∃u,h'.get? e=AA u)
  (g:l8 P w (upd H x o') h' x o'):HOk P w (upd H x o') h':=λb u q=>by
 have d:∀c y,H c=AA (.own y)->c≠x:=λc y r z=>by subst z;rwa[r]at m
 have a:∀c f,H c=AA (.tup f)->c≠x:=λc f r z=>by subst z;rwa[r]at m
 by_cases o:b=x
 ·subst o;rw[o0]at q;cases q;exact g
 ·rw[f9 o]at q
  by_cases j:b=e
  ·have l:H b=AA (.own x):=by
    lia
   rw[q]at l;cases l;obtain⟨v,s⟩:=i;exact⟨v,by simp_all⟩
  ·refine(p b u q).stay (λc v n=>k c v ?_) (λc r=>(f9 (d c b r)▸r)) λc f r=>(f9 (a c f r)▸r)
   rcases n with rfl|n
   ·exact j
   ·grind
end
structure Un(fs ex:List AI)(H H':Hp)(h h':Au):Prop where
 keep:∀b o,h.get? b=AA o->H b=AE->b∉fs->b∉ex->h'.get? b=AA o
 slot:∀b o,h.get? b=AA o->H b=AE->b∈fs->b∉ex->∃sl,h'.get? b=AA {o with slots:=sl}
 free:∀b o,h.get? b=AA o->H b=AE->b∉ex->H' b=AE
 there:∀b o,h.get? b=AA o->b∉ex->∃o',h'.get? b=AA o'
 tups:∀b xs,H b=AA (.tup xs)->H' b=AA (.tup xs)
 frzs:∀b o u,H b=AA (.frz o u)->H' b=AA (.frz o u)
 tbls:∀b ps,H b=AA (.tbl ps)->∃more,H' b=AA (.tbl (ps++more))
section
variable {fs fs' ex ex':List AI} {H1 H2:Hp} {h1 h2:Au} {x e:AI} 
def Un.any(u:Un fs ex H H1 h h1){ob}q(n)hx:=by
 by_cases a:b∈fs
 ·exact u.slot b ob q n a hx
 ·exact⟨ob.slots,u.keep b ob q n a hx⟩
def Un.kept(k:∀b u,h.get? b=AA u->h'.get? b=AA u):Un fs ex H H h h':=
 ⟨λb ob q _ _ _=>k b ob q,λb ob q _ _ _=>⟨ob.slots,k b ob q⟩,λ_ _ _ n _=>n,λb ob q _=>⟨ob,k b ob q⟩,λ_ _ q=>q,λ_ _ _ q=>q,λ_ ps q=>⟨#[],by rw[q];simp⟩⟩
def Un.refl:Un fs ex H H h h:=Un.kept λ_ _ q=>q
def Un.laid(k:∀b u,h.get? b=AA u->h'.get? b=AA u)(d:h.objs.size<=a)(c:H a=AE):Un fs ex H (upd H a o) h h' where
 keep:=λb u q _ _ _=>k b u q
 slot:=λb u q _ _ _=>⟨u.slots,k b u q⟩
 free:=λb u q n _=>f9 (BI (Ah (Aq q) d))▸n
 there:=λb u q _=>⟨u,k b u q⟩
 tups:=λb xs q=>f9 (o7 q c)▸q
 frzs:=λb u xs q=>f9 (o7 q c)▸q
 tbls:=λb ps q=>⟨#[],by rw[f9 (o7 q c),q];simp⟩
def Un.write(a:Mut (H x))(j:e=x\/H e=AA (.own x))(k:∀b u,b≠e->h.get? b=AA u->h'.get? b=AA u)(i:∃u,h'.get? e=AA u):Un fs ex H (upd H x o) h h':=by
 have g:∀b,H b=AE->b≠x:=λb n z=>by subst z;rw[n]at a;exact a
 have f:∀b,H b=AE->b≠e:=λb n z=>by
  simp_all
 have c:∀b u,H b=AA u->¬Mut (AA u)->b≠x:=λb u q nm z=>by subst z;rw[q]at a;exact nm a
 refine⟨λb u q n _ _=>k b u (f b n) q,λb u q n _ _=>⟨u.slots,k b u (f b n) q⟩,λb u q n _=>by rw[f9 (g b n)];exact n,λb u q _=>?_,
  λb xs q=>by rw[f9 (c b _ q λz=>z)];exact q,λb u xs q=>by rw[f9 (c b _ q λz=>z)];exact q,λb ps q=>⟨#[],by rw[f9 (c b _ q λz=>z),q];simp⟩⟩
 by_cases d:b=e
 ·simp_all
 ·exact⟨u,k b u d q⟩
end
abbrev trk(h:Au)(H:Hp):List AI:=(DN h.objs.size).filter λa=>(H a).isSome
abbrev J2(h:Au)(H:Hp):Au:=W.hideAll h (trk h H)
def bu0(h)H:(J2 h H).objs.size=h.objs.size:=W.hideAll_size _ _
def a74{o}(e:h.get? b=AA o)(n:H b=AE):(J2 h H).get? b=AA o:=
 W.hideAll_get _ e λhm=>by
  have q:=(mem_filter.mp hm).2;rw[n]at q;simp at q
def bd8{o}(e:(J2 h H).get? b=AA o):h.get? b=AA o/\H b=AE:=by
 have a:=W.of_hideAll (trk h H) e;refine⟨a,?_⟩;cases q:H b with
 |none=>rfl
 |some x=>
  have c:b∈trk h H:=mem_filter.mpr ⟨Jq.mpr (Aq a),by simp[q]⟩;have z:(J2 h H).get? b=AE:=W.hideAll_none (trk h H) c;rw[z]at e;cases e
abbrev cb5(g h:Au)(L:AI):List (AI×Obj):=(DN h.objs.size).filterMap λa=>if a=L\/(g.get? a).isSome=AC then AE else(h.get? a).map λo=>(a,o)
abbrev j7(g h:Au)(L d:AI):List (AI×Obj):=(cb5 g h L).filter λp=>AB (p.1≠d)
end
section
variable{x:Str}{i:Nat}
structure Mod(K:AM)(mg:Str->Option AF)(base:Au):Prop where
 kin:K.In base
 glob:base.Ns AK mg
 blt:∃mb,base.Ns CL mb/\∀x:Str,x≠"__name__"->mb x=BF x
 nolimit:base.NoLimit
structure Cx where
 prog:AZ
 w:At
 K:AM
 mg:Str->Option AF
 base:Au
 A:BG
 N:List Str
 s₀:AJ
 H₀:Hp
 env:Env
 outer:List Env
 stack:List Env
 ex:List AI
 fn:Str->Bool
 calm:Bool
 pn:List (AI×Obj)
 xe:AF->AJ->Prop
 ow:Str->Bool:=λ_=>AG
abbrev frs(l:List Env):List AI:=l.filterMap (·.frame)
@[reducible]noncomputable def Cx.fs(X:Cx):List AI:=frs X.outer
abbrev Vis(sc:BE)(x:Str):Prop:=sc.names.lookup x=AA .local\/sc.names.lookup x=AA .cell\/sc.names.lookup x=AA .free
abbrev Loc(sc:BE)(x:Str):Prop:=sc.names.lookup x=AA .local\/sc.names.lookup x=AA .cell
abbrev bl8(env:Env)(h:Au)(m:Str->Option AF)(x:Str)(u:AF):Prop:=
 (env.kindOf x=AA .local/\m x=AA u)\/((env.kindOf x=AA .cell\/env.kindOf x=AA .free)/\∃c,env.cells.lookup x=AA c/\h.IsCell c (AA u))
structure Cx.Ok(X:Cx):Prop where
 mod:Mod X.K X.mg X.base
 kind:X.env.scope.kind=.function
 glob:X.env.globals=AK
 blt:X.env.builtins=CL
 above:X.s₀.heap.objs.size<=X.env.locals
 inj:∀x y c,X.env.cells.lookup x=AA c->X.env.cells.lookup y=AA c->x=y
 has:∀x,(X.env.kindOf x=AA .cell\/X.env.kindOf x=AA .free)->∃c,X.env.cells.lookup x=AA c
 cab:∀x c,X.fn x=AC\/X.ow x=AC->X.env.cells.lookup x=AA c->X.s₀.heap.objs.size<=c
 hd:X.calm=AC->X.A.handled=AE
 frames:X.A.frames=AA X.stack
 stk:X.stack=X.outer\/(X.stack=X.env::X.outer/\X.env.frame=AA X.env.locals)
 exf:∀b∈X.ex,b≠X.env.locals/\∀x c,X.env.cells.lookup x=AA c->c≠b
 bs:∀b o,X.base.get? b=AA o->X.s₀.heap.get? b=AA o/\X.H₀ b=AE
 bsz:X.base.objs.size<=X.s₀.heap.objs.size
 noex:∀b o,X.base.get? b=AA o->b∉X.ex
 exfs:∀b∈X.ex,b∉X.fs
 funs:X.s₀.heap.FunFrames X.base X.outer
 frf:∀b∈X.fs,X.H₀ b=AE
structure Inv(X:Cx)(pins:List (AI×Obj))(σ:List (Option V))(H:Hp)(s:AJ):Prop where
 ok:X.Ok
 os:s.os=X.s₀.os
 bare:ES s.gens
 base:Un X.fs X.ex X.H₀ H X.s₀.heap s.heap
 loc:∃m,s.heap.Ns X.env.locals m/\∀(i:Nat)(x:Str)(v:V),X.N[i]?=AA x->σ[i]?=AA (AA v)->Vis X.env.scope x->∃u,i7 v u/\bl8 X.env s.heap m x u
 cell:∀x c,X.env.cells.lookup x=AA c->∃v,s.heap.IsCell c v
 free:H X.env.locals=AE
 freeC:∀x c,X.env.cells.lookup x=AA c->H c=AE\/(X.fn x=AG/\∃o u,H c=AA (.frz o u))
 pin:∀p∈X.pn++pins,s.heap.get? p.1=AA p.2/\H p.1=AE/\p.1≠X.env.locals/\p.1∉X.fs/\∀v,p.2.data≠.cell v
 hok:HOk X.prog X.w H s.heap
 len:σ.length=X.N.length
section
variable {X:Cx} {pins:List (AI×Obj)} {σ:List (Option V)} {H H':Hp} {s:AJ} {h':Au}
def Cx.Ok.nofr(a:X.Ok){b}{o}(e:X.base.get? b=AA o):b∉X.fs:=λhb=>by
 have:=(a.funs.mem hb).1;rw[e]at this;cases this
theorem Inv.bs(I:Inv X pins σ H s):∀b o,X.base.get? b=AA o->s.heap.get? b=AA o/\H b=AE:=λb o e=>
 ⟨I.base.keep b o (I.ok.bs b o e).1 (I.ok.bs b o e).2 (I.ok.nofr e) (I.ok.noex b o e),I.base.free b o (I.ok.bs b o e).1 (I.ok.bs b o e).2 (I.ok.noex b o e)⟩
def Inv.bk(I:Inv X pins σ H s):∀b o,X.base.get? b=AA o->s.heap.get? b=AA o:=λb o e=>(I.bs b o e).1
theorem Inv.mod(I:Inv X pins σ H s):Mod X.K X.mg X.base:=I.ok.mod
def Inv.kIn(I:Inv X pins σ H s):=I.ok.mod.kin.keeps I.bk
theorem Inv.lt(I:Inv X pins σ H s):X.env.locals<s.heap.objs.size:=let⟨_,a,_⟩:=I.loc;a.lt
def Inv.sz(I:Inv X pins σ H s):=Ax I.ok.above (HB I.lt)
def Inv.nofs(I:Inv X pins σ H s){a:AI}(h:s.heap.objs.size<=a):a∉X.fs:=λhb=>by
 obtain⟨_,o,b,_⟩:=I.ok.funs.mem hb;exact absurd (Ah (Aq b) (Ax I.sz h)) (DJ _)
def Inv.cne(I:Inv X pins σ H s):∀x c,X.env.cells.lookup x=AA c->c≠X.env.locals:=λx c e z=>by
 obtain⟨v,o,f,g⟩:=I.cell x c e;obtain⟨m,⟨d,h,i,a,b,_⟩,_⟩:=I.loc;grind
theorem Inv.funs(I:Inv X pins σ H s):s.heap.FunFrames X.base X.outer:=by
 have d:∀l,(∀b∈frs l,b∈X.fs)->X.s₀.heap.FunFrames X.base l->s.heap.FunFrames X.base l:=by
  intro l
  induction l with
  |nil=>intro _ _;trivial
  |cons env r i=>
   intro f n;obtain⟨p,⟨L,o,a,m,k,q⟩,j⟩:=n;have c:=f L (by unfold frs;rw[CV,a];exact Bo);obtain⟨t,e⟩:=I.base.slot L o k (I.ok.frf L c) c λz=>I.ok.exfs L z c;exact⟨p,⟨L,_,a,m,e,q⟩,i (λb hb=>f b (by unfold frs;rw[CV,a];exact Am _ hb)) j⟩
 exact d X.outer (λ_ hb=>hb) I.ok.funs
theorem Inv.stack(I:Inv X pins σ H s):s.heap.FunFrames X.base X.stack:=by
 rcases I.ok.stk with e|⟨e,b⟩
 ·rw[e];exact I.funs
 ·rw[e];obtain⟨m,a,_⟩:=I.loc;exact .cons (by rw[I.ok.kind];decide) b a (Fk (Ax I.ok.bsz I.ok.above)) I.funs
def Inv.stkSub(I:Inv X pins σ H s):∀b∈frs X.stack,b∈X.env.locals::X.fs:=λb hb=>by
 rcases I.ok.stk with e|⟨e,a⟩
 ·rw[e]at hb;exact Am _ hb
 ·rw[e]at hb;unfold frs at hb;rwa[CV,a]at hb
def Inv.stkFree(I:Inv X pins σ H s):∀b∈frs X.stack,H b=AE:=λb a=>by
 rcases AR.mp (I.stkSub b a)with e|a
 ·rw[e];exact I.free
 ·obtain⟨_,o,c,_⟩:=I.ok.funs.mem a;exact I.base.free b o c (I.ok.frf b a) λz=>I.ok.exfs b z a
def Inv.step{g':Array JW}{t':Nat}{d':Drawn}{ch:List AI}(I:Inv X pins σ H s)
  (h:∀b∈ch,(b∈X.ex\/X.s₀.heap.objs.size<=b)/\b≠X.env.locals/\(∀x c,X.env.cells.lookup x=AA c->c≠b)/\∀p∈X.pn++pins,p.1≠b)
  (g:∀b o,b≠X.env.locals->b∉X.fs->b∉ch->s.heap.get? b=AA o->H b=AE->h'.get? b=AA o)
  (D:∀b o,b≠X.env.locals->b∈X.fs->b∉ch->s.heap.get? b=AA o->H b=AE->∃V,h'.get? b=AA {o with slots:=V}) (a:∀b o,b∉ch->s.heap.get? b=AA o->H b=AE->H' b=AE)
  (F:∀b o,b∉ch->s.heap.get? b=AA o->∃K,h'.get? b=AA K)
  (G:∀b C,H b=AA (.tup C)->H' b=AA (.tup C)) (j:∀b o u,H b=AA (.frz o u)->H' b=AA (.frz o u)) (J:∀b Q,H b=AA (.tbl Q)->∃M,H' b=AA (.tbl (Q++M)))
  (ns:∀m,s.heap.Ns X.env.locals m->h'.Ns X.env.locals m) (N:HOk X.prog X.w H' h') (hg:ES g') :
  Inv X pins σ H' {s with heap:=h',gens:=g',drawn:=d',toks:=t'}:=by
 have L:∀b o,X.s₀.heap.get? b=AA o->b≠X.env.locals:=λb o e=>BI (Ah (Aq e) I.ok.above);have y:∀b o,X.s₀.heap.get? b=AA o->b∉X.ex->b∉ch:=λb o e hx hb=>by
  rcases(h b hb).1 with z|z
  ·exact hx z
  ·exact absurd (Ah (Aq e) z) (DJ _)
 have t:∀x c,X.env.cells.lookup x=AA c->∀v,s.heap.IsCell c v->h'.IsCell c v:=λx c e v⟨o,E,T⟩=>by
  have f:c∉ch:=λz=>(h c z).2.2.1 x c e rfl
  rcases I.freeC x c e with A|⟨_,R,P,S⟩
  ·by_cases hc:c∈X.fs
   ·obtain⟨V,q⟩:=D c o (I.cne x c e) hc f E A;exact⟨_,q,T⟩
   ·exact⟨o,g c o (I.cne x c e) hc f E A,T⟩
  ·obtain⟨h1,_⟩:=I.hok c _ S;obtain⟨h2,_⟩:=N c _ (j c R P S);rw[h1]at E;cases E;exact⟨_,h2,T⟩
 refine⟨I.ok,I.os,hg,⟨λb o e n hb hx=>?_,λb o e n hb hx=>?_,λb o e n hx=>?_,λb o e hx=>?_,λb C e=>G b C (I.base.tups b C e),λb o C e=>j b o C (I.base.frzs b o C e),λb Q e=>?_⟩,?_,λx c e=>?_,?_,λx c e=>?_,λp hp=>?_,N,I.len⟩
 ·exact g b o (L b o e) hb (y b o e hx) (I.base.keep b o e n hb hx) (I.base.free b o e n hx)
 ·obtain⟨V,B⟩:=I.base.slot b o e n hb hx;obtain⟨U,O⟩:=D b _ (L b o e) hb (y b o e hx) B (I.base.free b o e n hx);exact⟨U,O⟩
 ·obtain⟨K,B⟩:=I.base.there b o e hx;exact a b K (y b o e hx) B (I.base.free b o e n hx)
 ·obtain⟨K,B⟩:=I.base.there b o e hx;exact F b K (y b o e hx) B
 ·obtain⟨m1,B⟩:=I.base.tbls b Q e;obtain⟨m2,O⟩:=J b _ B;exact⟨m1++m2,by rw[O,Array.append_assoc]⟩
 ·obtain⟨m,hn,hl⟩:=I.loc;refine⟨m,ns m hn,λi x v B O e3=>?_⟩;obtain⟨u,r,l⟩:=hl i x v B O e3;refine⟨u,r,?_⟩
  rcases l with l|⟨k,c,e,z⟩
  ·exact .inl l
  ·exact .inr ⟨k,c,e,t x c e _ z⟩
 ·obtain⟨v,z⟩:=I.cell x c e;exact⟨v,t x c e v z⟩
 ·obtain⟨m,⟨o,_,_,E,_⟩,_⟩:=I.loc;exact a _ o (λz=>(h _ z).2.1 rfl) E I.free
 ·obtain⟨v,o,E,T⟩:=I.cell x c e
  rcases I.freeC x c e with A|⟨W,R,P,S⟩
  ·exact .inl (a c o (λz=>(h c z).2.2.1 x c e rfl) E A)
  ·exact .inr ⟨W,R,P,j c R P S⟩
 ·obtain⟨e,n,Z,Y,d⟩:=I.pin p hp;have f:p.1∉ch:=λz=>(h p.1 z).2.2.2 p hp rfl;exact⟨g p.1 p.2 Z Y f e n,a p.1 p.2 f e n,Z,Y,d⟩
def Inv.un{t'}(I:Inv X pins σ H s)(u:Un X.fs [] H H' s.heap h')(c:HOk X.prog X.w H' h'):Inv X pins σ H' {s with heap:=h',toks:=t'}:=by
 obtain⟨m,⟨o,l,p,g,r⟩,_⟩:=id I.loc;obtain⟨j,i⟩:=u.any g I.free ∎;exact I.step (ch:=[]) (λ_ z=>nomatch z) (λb o _ hb _ e n=>u.keep b o e n hb ∎) (λb o _ hb _ e n=>u.slot b o e n hb ∎) (λb o _ e n=>u.free b o e n ∎) (λb o _ e=>u.there b o e ∎) u.tups u.frzs u.tbls (λm' hm=>by
  obtain⟨k,d,f,a,h⟩:=hm;rw[g]at a;cases a;exact⟨_,d,f,i,h⟩) c I.bare
def Inv.call{g'}{t'}{d'}{ch}(I:Inv X pins σ H s)(u:Un (frs X.stack) ch H H' s.heap h')(f:HOk X.prog X.w H' h')(l:ES g')
  (d:∀b∈ch,(b∈X.ex\/X.s₀.heap.objs.size<=b)/\b≠X.env.locals/\(∀x c,X.env.cells.lookup x=AA c->c≠b)/\∀p∈X.pn++pins,p.1≠b) :
  Inv X pins σ H' {s with heap:=h',gens:=g',drawn:=d',toks:=t'}:=by
 obtain⟨m,⟨o,v,y,j,r⟩,_⟩:=id I.loc;obtain⟨q,g⟩:=u.any j I.free λz=>(d _ z).2.1 rfl;exact I.step d (λb o g hb hc e n=>u.keep b o e n (λz=>(AR.mp (I.stkSub b z)).elim g hb) hc) (λb o _ _ hc e n=>u.any e n hc) (λb o hc e n=>u.free b o e n hc) (λb o hc e=>u.there b o e hc) u.tups u.frzs u.tbls (λm' hm=>by
  obtain⟨t,h,i,a,k⟩:=hm;rw[j]at a;cases a;exact⟨_,h,i,g,k⟩) f l
def Inv.turned{t'}{it}(I:Inv X pins σ H s)(k:∀b o,b≠it->s.heap.get? b=AA o->h'.get? b=AA o)(m:H it=AE)(d:it≠X.env.locals)
  (i:it∈X.ex\/X.s₀.heap.objs.size<=it) (h:∀x c,X.env.cells.lookup x=AA c->c≠it) (g:∀p∈X.pn++pins,p.1≠it):Inv X pins σ H {s with heap:=h',toks:=t'}:=by
 have a:∀b u,H b=AA u->b≠it:=λb u e z=>by grind
 refine I.step (ch:=[it]) (λb hb=>?_) (λb o _ _ hc e _=>k b o (λz=>hc (by simp[z])) e) (λb o _ _ hc e _=>⟨o.slots,k b o (λz=>hc (by simp[z])) e⟩) (λ_ _ _ _ n=>n)
  (λb o hc e=>⟨o,k b o (λz=>hc (by simp[z])) e⟩) (λ_ _ e=>e) (λ_ _ _ e=>e) (λb ps e=>⟨#[],by rw[e];simp⟩) (λm hm=>?_) (λb u e=>?_) I.bare
 ·have e:=by simpa using hb
  subst e;exact⟨i,d,h,g⟩
 ·obtain⟨o,j,l,f,r⟩:=hm;exact⟨o,j,l,k _ o (Ao d) f,r⟩
 ·refine(I.hok b u e).stay (λc v hc=>k c v ?_) (λ_ q=>q) λ_ _ q=>q
  rcases hc with z|z
  ·rw[z];exact a b u e
  ·exact a c _ z
def Inv.tok(I:Inv X pins σ H s)t:=I.un (t':=t) Un.refl I.hok
theorem Inv.kept{t'}(I:Inv X pins σ H s)(k:∀b u,s.heap.get? b=AA u->h'.get? b=AA u):Inv X pins σ H {s with heap:=h',toks:=t'}:=I.un (Un.kept k) (I.hok.kept k)
theorem Inv.laid{a:AI}{o}{t'}(I:Inv X pins σ H s)(k:∀b u,s.heap.get? b=AA u->h'.get? b=AA u)(d:s.heap.objs.size<=a)(c:l8 X.prog X.w (upd H a o) h' a o):
  Inv X pins σ (upd H a o) {s with heap:=h',toks:=t'}:=I.un (Un.laid k d (I.hok.fresh d)) (I.hok.laid k d c)
theorem Inv.write{x e}{o}{t'}(I:Inv X pins σ H s)(d:Mut (H x))(f:e=x\/H e=AA (.own x))(k:∀b u,b≠e->s.heap.get? b=AA u->h'.get? b=AA u)(a:∃u,h'.get? e=AA u)
  (c:l8 X.prog X.w (upd H x o) h' x o):Inv X pins σ (upd H x o) {s with heap:=h',toks:=t'}:=I.un (Un.write d f k a) (I.hok.write d f k a c)
def Inv.pins_of{pins'}(I:Inv X pins σ H s)(h:∀p∈pins',s.heap.get? p.1=AA p.2/\H p.1=AE/\p.1≠X.env.locals/\p.1∉X.fs/\∀v,p.2.data≠.cell v):Inv X pins' σ H s:=
 ⟨I.ok,I.os,I.bare,I.base,I.loc,I.cell,I.free,I.freeC,λp hp=>(Bf.mp hp).elim (λz=>I.pin p (EM _ z)) (h p),I.hok,I.len⟩
def an9{N:List Str}(c:N.Nodup){j}(a:N[i]?=AA x)(b:N[j]?=AA x):i=j:=by
 obtain⟨g,e⟩:=AT.mp a;obtain⟨f,d⟩:=AT.mp b;exact(List.getElem_inj c).mp (e.trans d.symm)
def bt3{M:Lj}{A:BG}{E:AF->AJ->Prop}{v:V}{u:AF}{Q:Unit->AJ->Prop}(I:Inv X pins σ H s)(hN:X.N.Nodup)(hi:X.N[i]?=AA x)(C:Loc X.env.scope x)(r:i7 v u)
  (h:∀s',Inv X pins (σ.set i (AA v)) H s'->(∃a,BB a s.heap s'.heap/\(a=X.env.locals\/X.env.cells.lookup x=AA a))->Q () s') (hf:X.fn x=AC\/X.env.scope.names.lookup x=AA .local:=by first|exact .inl rfl|exact .inr rfl|assumption):AQ M A (storeName X.env x u) Q E s:=by
 obtain⟨m,hn,hl⟩:=id I.loc;have P:(X.env.scope.kind==.class||(X.env.scope.kind==.module&&X.env.locals != X.env.globals))=AG:=by rw[I.ok.kind];rfl
 have G:i<σ.length:=by rw[I.len];exact(AT.mp hi).1
 have K:=I.cne;have l:∀{a:AI}{h':Au},(∃o,s.heap.get? a=AA o/\H a=AE)->BB a s.heap h'->HOk X.prog X.w H h':=λ{a h'}ha f b ob e=>by
  obtain⟨_,_,g⟩:=ha;refine(I.hok b ob e).stay (λc S B q=>(f.2 c ?_).trans q) (λ_ q=>q) λ_ _ q=>q;rintro rfl
  rcases B with rfl|B
  ·rw[g]at e;cases e
  ·rw[g]at B;cases B
 rcases C with F|F
 ·refine wpAny_storeName_local F hn (λh' hn' f=>?_) P;obtain⟨oL,_,_,hoL,_⟩:=id hn;refine h _ ⟨I.ok,I.os,I.bare,⟨λb o e n hb C=>?_,λb o e n hb C=>?_,I.base.free,λb o e C=>?_,I.base.tups,I.base.frzs,I.base.tbls⟩,⟨_,hn',λj y v' t e2 e3=>?_⟩,λy c e=>?_,I.free,I.freeC,λp hp=>?_,l ⟨oL,hoL,I.free⟩ f,by simpa using I.len⟩ ⟨_,f,.inl rfl⟩
  ·exact(f.2 b (BI (Ah (Aq e) I.ok.above))).trans (I.base.keep b o e n hb C)
  ·obtain⟨Y,t⟩:=I.base.slot b o e n hb C;exact⟨Y,(f.2 b (BI (Ah (Aq e) I.ok.above))).trans t⟩
  ·obtain⟨o',t⟩:=I.base.there b o e C;exact⟨o',(f.2 b (BI (Ah (Aq e) I.ok.above))).trans t⟩
  ·by_cases J:j=i
   ·subst J;rw[hi]at t;cases t;rw[Dc G]at e2;cases e2;exact⟨u,r,.inl ⟨F,∎⟩⟩
   ·rw[Br (Ao J)]at e2;obtain⟨W,Z,q⟩:=hl j y v' t e2 e3;refine⟨W,Z,?_⟩
    rcases q with⟨k,e⟩|⟨k,c,e,z⟩
    ·refine .inl ⟨k,?_⟩;have:y≠x:=λe=>J (an9 hN t (e▸hi));simp[this,e]
    ·exact .inr ⟨k,c,e,z.sameBut f (K y c e)⟩
  ·obtain⟨S,z⟩:=I.cell y c e;exact⟨S,z.sameBut f (K y c e)⟩
  ·obtain⟨e,n,T,nf,d⟩:=I.pin p hp;exact⟨(f.2 p.1 T).trans e,n,T,nf,d⟩
 ·have D:X.fn x=AC:=by
   rcases hf with z|z
   ·exact z
   ·rw[z]at F;cases F
  obtain⟨c,B⟩:=I.ok.has x (.inl F);obtain⟨S,z⟩:=I.cell x c B;have g:H c=AE:=(I.freeC x c B).resolve_right λz=>by rw[D]at z;exact absurd z.1 ∅
  refine wpAny_storeName_cell I.ok.kind F B z (λh' hc' f=>?_);obtain⟨oc,O,L⟩:=id z;refine h {s with heap:=h'} ⟨I.ok,I.os,I.bare,⟨λb o e n hb C=>?_,λb o e n hb C=>?_,I.base.free,λb o e C=>?_,I.base.tups,I.base.frzs,I.base.tbls⟩,⟨m,hn.sameBut f (Ao (K x c B)),λj y v' t e2 e3=>?_⟩,λy U e=>?_,I.free,I.freeC,λp hp=>?_,l ⟨oc,O,g⟩ f,by simpa using I.len⟩ ⟨c,f,.inr B⟩
  ·exact(f.2 b (BI (Ah (Aq e) (I.ok.cab x c (.inl D) B)))).trans (I.base.keep b o e n hb C)
  ·obtain⟨Y,t⟩:=I.base.slot b o e n hb C;exact⟨Y,(f.2 b (BI (Ah (Aq e) (I.ok.cab x c (.inl D) B)))).trans t⟩
  ·obtain⟨o',t⟩:=I.base.there b o e C;exact⟨o',(f.2 b (BI (Ah (Aq e) (I.ok.cab x c (.inl D) B)))).trans t⟩
  ·by_cases J:j=i
   ·subst J;rw[hi]at t;cases t;rw[Dc G]at e2;cases e2;exact⟨u,r,.inr ⟨.inl F,c,B,hc'⟩⟩
   ·rw[Br (Ao J)]at e2;obtain⟨W,Z,q⟩:=hl j y v' t e2 e3;refine⟨W,Z,?_⟩
    rcases q with q|⟨k,U,e,z'⟩
    ·exact .inl q
    ·refine .inr ⟨k,U,e,z'.sameBut f ?_⟩;rintro rfl;exact J (an9 hN t (I.ok.inj _ _ _ e B▸hi))
  ·by_cases R:U=c
   ·subst R;exact⟨_,hc'⟩
   ·obtain⟨w2,z2⟩:=I.cell y U e;exact⟨w2,z2.sameBut f R⟩
  ·obtain⟨e,n,T,nf,d⟩:=I.pin p hp;refine⟨(f.2 p.1 ?_).trans e,n,T,nf,d⟩;intro q;rw[q,O]at e;have q':oc=p.2:=BA e;exact d S (by rw[<-q'];exact L)
def V4{M:Lj}{A:BG}{E:AF->AJ->Prop}{v:V}{u:AF}{Q:Unit->AJ->Prop}(I:Inv X pins σ H s)(c:X.N.Nodup)(hi:X.N[i]?=AA x)(a:Loc X.env.scope x)(r:i7 v u)
  (h:∀s',Inv X pins (σ.set i (AA v)) H s'->Q () s') (b:X.fn x=AC\/X.env.scope.names.lookup x=AA .local:=by first|exact .inl rfl|exact .inr rfl|assumption):AQ M A (storeName X.env x u) Q E s:=
 bt3 I c hi a r (λs' I' _=>h s' I') b
def Inv.call'{s'}{ch}(I:Inv X pins σ H s)(f:s'.os=s.os)(u:Un (frs X.stack) ch H H' s.heap s'.heap)(a:HOk X.prog X.w H' s'.heap)(g:ES s'.gens)
  (d:∀b∈ch,(b∈X.ex\/X.s₀.heap.objs.size<=b)/\b≠X.env.locals/\(∀x c,X.env.cells.lookup x=AA c->c≠b)/\∀p∈X.pn++pins,p.1≠b):Inv X pins σ H' s':=by
 obtain⟨h',g',d',t',h⟩:=s';have e:=f;subst e;exact I.call u a g d
end
@[reducible]noncomputable def XK:=AF->Option AI->Hp->Prop
@[reducible]noncomputable def St:=List (Option V)
@[reducible]noncomputable def VK:=V->Hp->Prop
@[reducible]noncomputable def TE:=St->Hp->VK->Prop
@[reducible]noncomputable def TT:=St->Hp->(Bool->Hp->Prop)->Prop
@[reducible]noncomputable def TA:=St->Hp->(List V->Hp->Prop)->Prop
structure Ends where
 nx:St->Hp->Prop
 rt:VK
 bk:St->Hp->Prop:=λ_ _=>False
 ct:St->Hp->Prop:=λ_ _=>False
@[reducible]noncomputable def TS:=Ends->St->Hp->Prop
abbrev EP(X:Cx)(pins:List (AI×Obj))(σ:St)(Q:VK)(u:AF)(s':AJ):Prop:=∃v H',Inv X pins σ H' s'/\i7 v u/\Q v H'
abbrev TP(X:Cx)(pins:List (AI×Obj))(σ:St)(Q:Bool->Hp->Prop)(b:Bool)(s':AJ):Prop:=∃H',Inv X pins σ H' s'/\Q b H'
abbrev AP(X:Cx)(pins:List (AI×Obj))(σ:St)(Q:List V->Hp->Prop)(us:List AF)(s':AJ):Prop:=∃vs H',Inv X pins σ H' s'/\g9 vs us/\Q vs H'
abbrev SP(X:Cx)(pins:List (AI×Obj))(D:Ends)(f:Flow)(s':AJ):Prop:=
 match f with
 |.next=>∃σ' H',Inv X pins σ' H' s'/\D.nx σ' H'
 |.brk=>∃σ' H',Inv X pins σ' H' s'/\D.bk σ' H'
 |.cont=>∃σ' H',Inv X pins σ' H' s'/\D.ct σ' H'
 |.ret u=>∃v σ' H',Inv X pins σ' H' s'/\i7 v u/\D.rt v H'
abbrev PE(X:Cx)(e:AS)(t:TE):Prop:=
 ∀(pins:List (AI×Obj))(s:AJ)(σ:St)(H:Hp)(Q:VK),Inv X pins σ H s->t σ H Q->AQ (model X.prog X.w) X.A (eval e X.env) (EP X pins σ Q) X.xe s
abbrev PT(X:Cx)(e:AS)(t:TT):Prop:=
 ∀(pins:List (AI×Obj))(s:AJ)(σ:St)(H:Hp)(Q:Bool->Hp->Prop),Inv X pins σ H s->t σ H Q->AQ (model X.prog X.w) X.A (IH e X.env (eval e X.env)) (TP X pins σ Q) X.xe s
abbrev PW(X:Cx)(e:AS)(t:TT):Prop:=
 ∀(whole:Sem AF)(pins:List (AI×Obj))(s:AJ)(σ:St)(H:Hp)(Q:Bool->Hp->Prop),Inv X pins σ H s->t σ H Q->AQ (model X.prog X.w) X.A (IH e X.env whole) (TP X pins σ Q) X.xe s
def PW.pt{X:Cx}{e:AS}{t:TT}(h:PW X e t):PT X e t:=h _
abbrev PA(X:Cx)(es:List AS)(t:TA):Prop:=
 ∀(pos:Pos)(pins:List (AI×Obj))(s:AJ)(σ:St)(H:Hp)(Q:List V->Hp->Prop),Inv X pins σ H s->t σ H Q->AQ (model X.prog X.w) X.A (spliced (Bp pos (Aj es X.env))) (AP X pins σ Q) X.xe s
abbrev PS(X:Cx)(st:BP)(t:TS):Prop:=
 ∀(pins:List (AI×Obj))(s:AJ)(σ:St)(H:Hp)(D:Ends),Inv X pins σ H s->t D σ H->AQ (model X.prog X.w) X.A (exec st X.env) (SP X pins D) X.xe s
abbrev PSs(X:Cx)(st:List BP)(t:TS):Prop:=
 ∀(pins:List (AI×Obj))(s:AJ)(σ:St)(H:Hp)(D:Ends),Inv X pins σ H s->t D σ H->AQ (model X.prog X.w) X.A (execs st X.env) (SP X pins D) X.xe s
def thn{α}{t:Sem α}{Q Q'}{M}{A}{E}{s}(h:AQ M A t Q E s)(b:∀a s,Q a s->Q' a s):AQ M A t Q' E s:=BJ h b λ_ _ x=>x
end
section
variable{pins:List (AI×Obj)}{s:AJ}{σ:St}{H:Hp}{x:Str}{pos:Pos}{u:AF}{op:EO}
section
variable {X:Cx}
def bin{a b}{ta tb}(n:PE X a ta)(m:PE X b tb){R:V->V->Hp->Prop}(I:Inv X pins σ H s)(h:ta σ H λx e=>tb σ e λy c=>R x y c)
  {α} {Q} {f:AF->AF->Sem α}
  (l:∀v u d x y c,Inv X pins σ c d->i7 x v->i7 y u->R x y c->AQ (model X.prog X.w) X.A (f v u) Q X.xe d) :
  AQ (model X.prog X.w) X.A (eval a X.env) (λv s₁=>AQ (model X.prog X.w) X.A (eval b X.env) (λu s₂=>AQ (model X.prog X.w) X.A (f v u) Q X.xe s₂) X.xe s₁) X.xe s:=by
 refine thn (n pins s σ H _ I h) λv s1 z0=>?_;obtain⟨x,e,p,i,k⟩:=z0;refine thn (m pins s1 σ e _ p k) λu d z1=>?_;obtain⟨y,c,o,g,j⟩:=z1;exact l v u d x y c o i g j
abbrev ac4(i:Nat):TE:=λσ H Q=>∃v,σ[i]?=AA (AA v)/\Q v H
abbrev tC(v:V):TE:=λ_ H Q=>Q v H
def M0{i:Nat}(t:X.N[i]?=AA x)(n:Vis X.env.scope x)(f:(x==("__debug__":Str))=AG:=by decide)(g:(x==("__classdict__":Str))=AG:=by decide):PE X (.Name x pos) (ac4 i):=by
 intro d s k H Q I h;obtain⟨v,e,h⟩:=h;obtain⟨m,o,q⟩:=I.loc;obtain⟨u,r,l⟩:=q i x v t e n;have fin:EP X d k Q u s:=⟨v,H,I,r,h⟩
 rcases l with⟨b,p⟩|⟨b,c,j,a⟩
 ·exact Jz (wpAny_loadName_local I.ok.kind b o p fin) f
 ·rcases b with b|b
  ·exact Jz (wpAny_loadName_cell I.ok.kind b j a fin) f
  ·exact Jz (wpAny_loadName_free I.ok.kind b j a fin g) f
def cj1{i j pos}:PE X (.Constant (.int i) j pos) (tC (.int i)):=λ_ _ _ H _ I h=>wpAny_Constant_int ⟨.int i,H,I.tok _,⟨_,rfl⟩,h⟩
def c46{b j pos}:PE X (.Constant (.bool b) j pos) (tC (.bl b)):=λ_ _ _ H _ I h=>Constant_bool ⟨.bl b,H,I,rfl,h⟩
def cn4{j pos}:PE X (.Constant .none j pos) (tC .non):=λ_ _ _ H _ I h=>Ia ⟨.non,H,I,rfl,h⟩
def be2{x j pos}:PE X (.Constant (.str x) j pos) (tC (.str x)):=λ_ _ _ H _ I h=>Calls.Constant_str ⟨.str x,H,I.tok _,⟨_,rfl⟩,h⟩
abbrev Gl(X:Cx)(x:Str):Prop:=X.env.kindOf x=AA .globalImplicit
def E5{E:AF->AJ->Prop}{pos:Pos}{Q:AF->AJ->Prop}(I:Inv X pins σ H s)(b:Gl X x)(a:X.mg x=AA u)(h:Q u s)
  (c:(x==("__debug__":Str))=AG:=by decide):AQ (model X.prog X.w) X.A (eval (.Name x pos) X.env) Q E s:=
 HC I.ok.kind b (Calls.loadGlobal_global (by rw[I.ok.glob];exact I.mod.glob.keeps I.bk) a h) c
def L7{E:AF->AJ->Prop}{pos:Pos}{Q:AF->AJ->Prop}(I:Inv X pins σ H s)(d:Gl X x)(c:X.mg x=AE)(a:BF x=AA u)(h:Q u s)
  (b:x≠"__name__":=by decide) (e:(x==("__debug__":Str))=AG:=by decide):AQ (model X.prog X.w) X.A (eval (.Name x pos) X.env) Q E s:=by
 obtain⟨i,g,f⟩:=I.mod.blt;exact HC I.ok.kind d (Calls.loadGlobal_builtin (by rw[I.ok.glob];exact I.mod.glob.keeps I.bk) c (by rw[I.ok.blt];exact g.keeps I.bk) ((f x b).trans a) h) e
def ap6{v:V}(b:Gl X x)(a:X.mg x=AA u)(r:i7 v u)(c:(x==("__debug__":Str))=AG:=by decide):PE X (.Name x pos) (tC v):=
 λ_ _ _ H _ I h=>E5 I b a ⟨v,H,I,r,h⟩ c
def bc6{v:V}(d:Gl X x)(c:X.mg x=AE)(a:BF x=AA u)(r:i7 v u)(b:x≠"__name__":=by decide)(e:(x==("__debug__":Str))=AG:=by decide):PE X (.Name x pos) (tC v):=
 λ_ _ _ H _ I h=>L7 I d c a ⟨v,H,I,r,h⟩ b e
variable {a b:AS} {ta tb:TE} 
abbrev PC(X:Cx)(op:EO)(a b:AS)(t:TE):Prop:=
 ∀(pins:List (AI×Obj))(s:AJ)(σ:St)(H:Hp)(Q:VK),Inv X pins σ H s->t σ H Q ->
  AQ (model X.prog X.w) X.A (eval a X.env) (λv s₁=>AQ (model X.prog X.w) X.A (eval b X.env) (λu s₂=>AQ (model X.prog X.w) X.A (Co op v u) (EP X pins σ Q) X.xe s₂) X.xe s₁) X.xe s
def a75 b(h:op≠.In)(d:op≠.NotIn):CM op b=AG:=by
 have c:(op==CmpOp.In)=AG:=by lia
 have a:(op==II)=AG:=by lia
 cases b<;>simp[CM,c,a]
abbrev db0(ta:TE):TE:=λσ H Q=>ta σ H λx H1=>Q (.bl (AB (x=.non))) H1
abbrev cy9(ta:TE):TE:=λσ H Q=>ta σ H λx H1=>Q (.bl (!decide (x=.non))) H1
def i7.none_iff{x}{v}(r:i7 x v):(v==BX)=AB (x=.non):=by
 cases x with
 |non=>cases r;rfl
 |bl _=>cases r;rfl
 |int _=>obtain⟨t,rfl⟩:=r;rfl
 |str _=>obtain⟨t,rfl⟩:=r;rfl
 |byt _=>obtain⟨t,rfl⟩:=r;rfl
 |flt _=>obtain⟨t,rfl⟩:=r;rfl
 |ref _=>cases r;rfl
 |ty _=>cases r;rfl
def bh1{j pos'}(f:PE X a ta):PC X .Is a (.Constant .none j pos') (db0 ta):=by
 intro b s c H Q I h;refine thn (f b s c H _ I h) λv s1 z2=>?_;obtain⟨x,i,g,d,e⟩:=z2;exact Ia (is_none_gen ⟨.bl _,i,g,by rw[d.none_iff];rfl,e⟩)
def ba3{j pos'}(f:PE X a ta):PC X .IsNot a (.Constant .none j pos') (cy9 ta):=by
 intro b s c H Q I h;refine thn (f b s c H _ I h) λv s1 z3=>?_;obtain⟨x,i,g,d,e⟩:=z3;exact Ia (isnot_none_gen ⟨.bl _,i,g,by rw[d.none_iff];rfl,e⟩)
abbrev tB(t:TE):TT:=λσ H Q=>t σ H λx H1=>∃c,x=.bl c/\Q c H1
def bg5{t:TE}(h:PC X op a b t)(c:CM op b=AG:=by first|exact a75 _ ∅ ∅|rfl):PE X (.Compare a [op] [b] pos) t:=λpins s σ H Q I hw=>Lk (h pins s σ H Q I hw) c
def bf3{t:TE}(h:PC X op a b t)(e:CM op b=AG:=by first|exact a75 _ ∅ ∅|rfl):PT X (.Compare a [op] [b] pos) (tB t):=by
 intro c s f H Q I j;refine JR (thn (h c s f H _ I j) λv s1 e=>thn e λu s2 h2=>thn h2 λc s3 z4=>?_) e;obtain⟨x,l,k,g,i⟩:=z4;obtain⟨d,rfl,q⟩:=i;cases g;exact Cu ⟨l,k,q⟩
def cn7{e:AS}{t:TE}(h:PE X e t)(j:∀a,IH e X.env a=(do let v <-a;Ho e.pos;holding [v] (truthy v)):=by intro _;rfl):PT X e (tB t):=by
 intro b s c H Q I i;refine isTrue_plain (thn (h b s c H _ I i) λv s1 z5=>?_) (j _);obtain⟨x,l,k,f,g⟩:=z5;obtain⟨d,rfl,q⟩:=g;cases f;exact Cu ⟨l,k,q⟩
variable {tA tB':TT} {j7:List AS}
abbrev db9(t u:TT):TT:=λσ H Q=>t σ H λc H1=>if c=AC then u σ H1 Q else Q AG H1
abbrev tOr(t u:TT):TT:=λσ H Q=>t σ H λc H1=>if c=AC then Q AC H1 else u σ H1 Q
abbrev da1(t:TT):TT:=λσ H Q=>t σ H λc H1=>Q (!c) H1
def b65(f:PT X a tA):PW X (.BoolOp .And [a] pos) tA:=by
 intro g b s d H Q I h;refine isTrue_and (thn (f b s d H Q I h) λc s1 e=>?_);cases c with
 |true=>exact isTrue_and_nil e
 |false=>exact e
def ci3(f:PT X a tA):PW X (.BoolOp .Or [a] pos) tA:=by
 intro g b s d H Q I h;refine isTrue_or (thn (f b s d H Q I h) λc s1 e=>?_);cases c with
 |false=>exact isTrue_or_nil e
 |true=>exact e
def ct1(i:PT X a tA)(g:PW X (.BoolOp .And (b::j7) pos) tB'):PW X (.BoolOp .And (a::b::j7) pos) (db9 tA tB'):=by
 intro f d s e H Q I h;refine isTrue_and (thn (i d s e H _ I h) λc s1⟨H1,I1,q1⟩=>?_);cases c with
 |true=>exact g f d s1 e H1 Q I1 q1
 |false=>exact⟨H1,I1,q1⟩
def cx8(i:PT X a tA)(g:PW X (.BoolOp .Or (b::j7) pos) tB'):PW X (.BoolOp .Or (a::b::j7) pos) (tOr tA tB'):=by
 intro f d s e H Q I h;refine isTrue_or (thn (i d s e H _ I h) λc s1⟨H1,I1,q1⟩=>?_);cases c with
 |true=>exact⟨H1,I1,q1⟩
 |false=>exact g f d s1 e H1 Q I1 q1
def ct5(b:PT X a tA):PT X (.UnaryOp .Not a pos) (da1 tA):=(λpins s σ H Q I h=>isTrue_not (b pins s σ H (λc=>Q (!c)) I h))
abbrev c03(ta tb:TE):TE:=λσ H Q=>ta σ H λx H1=>∃c,x=.bl c/\if c=AC then tb σ H1 Q else Q (.bl AG) H1
abbrev dd4(ta tb:TE):TE:=λσ H Q=>ta σ H λx H1=>∃c,x=.bl c/\if c=AC then Q (.bl AC) H1 else tb σ H1 Q
abbrev cy7(ta:TE):TE:=λσ H Q=>ta σ H λx H1=>∃c,x=.bl c/\Q (.bl (!c)) H1
def be8{op}{t}(h:PE X a t):PE X (.BoolOp op [a] pos) t:=λpins s σ H Q I hw=>BoolOp_one (h pins s σ H Q I hw)
def cm6(l:PE X a ta)(k:PE X (.BoolOp .And (b::j7) pos) tb):PE X (.BoolOp .And (a::b::j7) pos) (c03 ta tb):=by
 intro d s f H Q I h;refine BoolOp_and (thn (l d s f H _ I h) λv s1 z6=>?_);obtain⟨x,i,g,j,e⟩:=z6;obtain⟨c,rfl,e⟩:=e;cases j;refine Cu ?_;cases c with
 |true=>exact k d s1 f i Q g e
 |false=>exact⟨.bl AG,i,g,rfl,e⟩
def c53(l:PE X a ta)(k:PE X (.BoolOp .Or (b::j7) pos) tb):PE X (.BoolOp .Or (a::b::j7) pos) (dd4 ta tb):=by
 intro d s f H Q I h;refine BoolOp_or (thn (l d s f H _ I h) λv s1 z7=>?_);obtain⟨x,i,g,j,e⟩:=z7;obtain⟨c,rfl,e⟩:=e;cases j;refine Cu ?_;cases c with
 |false=>exact k d s1 f i Q g e
 |true=>exact⟨.bl AC,i,g,rfl,e⟩
def cq5(g:PE X a ta):PE X (.UnaryOp .Not a pos) (cy7 ta):=by
 intro b s e H Q I h;refine UnaryOp_ (thn (g b s e H _ I h) λv s1 z8=>?_);obtain⟨x,j,i,f,d⟩:=z8;obtain⟨c,rfl,d⟩:=d;cases f;exact not_of (Cu ⟨.bl !c,j,i,rfl,d⟩)
abbrev tIf(t:TT)(ta tb:TE):TE:=λσ H Q=>t σ H λc H1=>if c=AC then ta σ H1 Q else tb σ H1 Q
def b23{c}(g:PT X c tA)(j:PE X a ta)(i:PE X b tb):PE X (.IfExp c a b pos) (tIf tA ta tb):=by
 intro e s f H Q I h;refine wpAny_IfExp (thn (g e s f H _ I h) λd s1⟨H1,I1,q1⟩=>?_);cases d with
 |true=>exact j e s1 f H1 Q I1 q1
 |false=>exact i e s1 f H1 Q I1 q1
end
end
section
variable{u:AF}{X:Cx}{pins:List (AI×Obj)}{σ:St}{H:Hp}{s:AJ}{e tg:AS}{te:TE}{pos:Pos}{P:AZ}
abbrev SqL(K:AM)(H:Hp)(a:AI)(xs:List V):Prop:=
 Rd H a (.lst xs)\/
  ∃(o:Obj)(its:Array AF)(n:Nat),K.lookup a=AA o/\o.cls=.type "list"/\o.dict=AE/\o.data=.seq its n/\its.size<=sizeLine/\g9 xs its.toList
abbrev SqT(K:AM)(H:Hp)(a:AI)(xs:List V):Prop:=
 Rd H a (.tup xs)\/
  ∃(o:Obj)(its:Array AF)(n:Nat),K.lookup a=AA o/\o.cls=.type "tuple"/\o.dict=AE/\o.data=.seq its n/\its.size<=sizeLine/\g9 xs its.toList
abbrev dc2:AF->Option V
 |.none=>AA .non
 |.bool b=>AA (.bl b)
 |.int i _=>AA (.int i)
 |.str x _=>AA (.str x)
 |.bytes b _=>AA (.byt b)
 |.float b _=>AA (.flt b)
 |.ref a=>AA (.ref a)
 |.type n=>AA (.ty n)
 |_=>AE
def i7.abs{x}(r:i7 x u):dc2 u=AA x:=by
 cases x with
 |non=>cases r;rfl
 |bl _=>cases r;rfl
 |int _=>obtain⟨t,rfl⟩:=r;rfl
 |str _=>obtain⟨t,rfl⟩:=r;rfl
 |byt _=>obtain⟨t,rfl⟩:=r;rfl
 |flt _=>obtain⟨t,rfl⟩:=r;rfl
 |ref _=>cases r;rfl
 |ty _=>cases r;rfl
theorem i7.inj{x y}(r:i7 x u)(q:i7 y u):x=y:=BA (r.abs.symm.trans q.abs)
theorem g9.inj:∀{b a}{us},g9 b us->g9 a us->b=a
 |_,_,_,.nil,.nil=>rfl
 |_,_,_,.cons r t,.cons c t'=>by rw[r.inj c,g9.inj t t']
section
variable {a:AI} {xs ys:List V}
def Inv.list(I:Inv X pins σ H s)(h:SqL X.K H a xs):∃b:List AF,g9 xs b/\PlainL s.heap a b.toArray/\xs.length<=sizeLine:=by
 rcases h with h|⟨o,b,n,d,g,f,c,i,r⟩
 ·obtain⟨z,b,n,r,e⟩:=h.ok I.hok;exact⟨b,r,⟨_,n,e,rfl,rfl,rfl⟩,z⟩
 ·refine⟨b.toList,r,⟨o,n,I.kIn a o d,g,f,by simpa using c⟩,?_⟩;have e:=r.length;simp at e;lia
def Inv.tupleD(I:Inv X pins σ H s)(h:SqT X.K H a xs):∃b:List AF,g9 xs b/\E7 s.heap a b.toArray/\xs.length<=sizeLine:=by
 rcases h with h|⟨o,b,n,f,g,c,d,i,r⟩
 ·obtain⟨z,b,r,p⟩:=h.ok I.hok;exact⟨b,r,p,z⟩
 ·refine⟨b.toList,r,⟨o,I.kIn a o f,g,c,n,by simpa using d⟩,?_⟩;have e:=r.length;simp at e;lia
def Inv.tuple(I:Inv X pins σ H s)(h:SqT X.K H a xs):∃b:List AF,g9 xs b/\IG s.heap a b.toArray/\xs.length<=sizeLine:=by
 obtain⟨b,r,p,z⟩:=I.tupleD h;exact⟨b,r,p.tup,z⟩
def Inv.list_inj(I:Inv X pins σ H s)(h:SqL X.K H a xs)(h':SqL X.K H a ys):xs=ys:=by
 obtain⟨b,r,⟨o,n,e,_,_,d⟩,_⟩:=I.list h;obtain⟨its',c,⟨f,g,i,_,_,d'⟩,_⟩:=I.list h';have:b=its':=by simp_all
 subst this;exact r.inj c
def Inv.tuple_inj(I:Inv X pins σ H s)(h:SqT X.K H a xs)(h':SqT X.K H a ys):xs=ys:=by
 obtain⟨b,r,⟨o,e,_,n,d⟩,_⟩:=I.tuple h;obtain⟨its',c,⟨f,i,_,g,d'⟩,_⟩:=I.tuple h';have:b=its':=by simp_all
 subst this;exact r.inj c
end
@[reducible]noncomputable def Cx.wish(X:Cx)(E:AF->AJ->Prop):Cx:={X with xe:=E}
theorem Cx.Ok.wish(a:X.Ok)E:(X.wish E).Ok:=
 ⟨a.mod,a.kind,a.glob,a.blt,a.above,a.inj,a.has,a.cab,a.hd,a.frames,a.stk,a.exf,a.bs,a.bsz,a.noex,a.exfs,a.funs,a.frf⟩
def Cx.Ok.unwish{E}(a:(X.wish E).Ok):X.Ok:=
 ⟨a.mod,a.kind,a.glob,a.blt,a.above,a.inj,a.has,a.cab,a.hd,a.frames,a.stk,a.exf,a.bs,a.bsz,a.noex,a.exfs,a.funs,a.frf⟩
section
variable {E:AF->AJ->Prop}
theorem Inv.wish(I:Inv X pins σ H s)E:Inv (X.wish E) pins σ H s:=⟨I.ok.wish E,I.os,I.bare,I.base,I.loc,I.cell,I.free,I.freeC,I.pin,I.hok,I.len⟩
theorem Inv.unwish(I:Inv (X.wish E) pins σ H s):Inv X pins σ H s:=⟨I.ok.unwish,I.os,I.bare,I.base,I.loc,I.cell,I.free,I.freeC,I.pin,I.hok,I.len⟩
end
section
variable {st:BP} {j7:List BP} {t u:TS} 
abbrev bj8:TS:=λD σ H=>D.nx σ H
abbrev da6(t u:TS):TS:=λD σ H=>t {D with nx:=u D} σ H
def cg4:PSs X [] bj8:=λ_ _ σ H _ I h=>Ci ⟨σ,H,I,h⟩
def a69(i:PS X st t)(g:PSs X j7 u):PSs X (st::j7) (da6 t u):=by
 intro a s d H D I h;refine HU (thn (i a s d H {D with nx:=u D} I h) λf s1 q=>?_);cases f with
 |next=>
  obtain⟨b,l,k,q⟩:=q;exact g a s1 b l D k q
 |ret v=>exact q
 |brk=>exact q
 |cont=>exact q
def a98(e:PS X st t):PSs X [st] t:=by
 intro a s c H D I h;refine HU (thn (e a s c H D I h) λf s1 q=>?_);cases f with
 |next=>exact Ci q
 |ret v=>exact q
 |brk=>exact q
 |cont=>exact q
abbrev cx0:TS:=λD σ H=>D.ct σ H
def b90:PS X (.Pass pos) bj8:=λ_ _ σ H _ I h=>wpAny_Pass ⟨σ,H,I,h⟩
def bo4:PS X (.Continue pos) cx0:=λ_ _ σ H _ I h=>wpAny_Continue ⟨σ,H,I,h⟩
def Inv.quiet(I:Inv X pins σ H s):interactive X.env=AG:=by simp[interactive,I.ok.kind]
abbrev cw3(te:TE):TS:=λD σ H=>te σ H λ_ H1=>D.nx σ H1
def bb8(d:PE X e te)(c:Cp e AE pos.line X.env=pure AG:=by rfl):PS X (.Expr e pos) (cw3 te):=by
 intro a s b H D I h;exact wpAny_Expr_any (thn (d a s b H _ I h) λv s1⟨x,H1,I1,r1,q1⟩=>⟨b,H1,I1,q1⟩) I.quiet c
abbrev c85(te:TE):TS:=λD σ H=>te σ H D.rt
def cq2(a:PE X e te):PS X (.Return (AA e) pos) (c85 te):=λpins s σ H D I h=>wpAny_Return_some (thn (a pins s σ H _ I h) λv s1⟨x,H1,I1,r1,q1⟩=>⟨x,σ,H1,I1,r1,q1⟩)
abbrev c28:TS:=λD _ H=>D.rt .non H
def ce4:PS X (.Return AE pos) c28:=λ_ _ σ H _ I h=>wpAny_Return_none ⟨.non,σ,H,I,rfl,h⟩
abbrev c89(c:TT)(t u:TS):TS:=λD σ H=>c σ H λb H1=>if b=AC then t D σ H1 else u D σ H1
def c07{c}{a b}{tc}(g:PT X c tc)(j:PSs X a t)(i:PSs X b u):PS X (.If c a b pos) (c89 tc t u):=by
 intro e s f H D I h;refine wpAny_If (thn (g e s f H _ I h) λd s1⟨H1,I1,q1⟩=>?_);cases d with
 |true=>exact j e s1 f H1 D I1 q1
 |false=>exact i e s1 f H1 D I1 q1
end
@[reducible]noncomputable def TG:=V->St->Hp->(St->Hp->Prop)->Prop
@[reducible]noncomputable def TGs:=List V->St->Hp->(St->Hp->Prop)->Prop
abbrev PG(X:Cx)(target:AS)(t:TG):Prop:=
 ∀(pins:List (AI×Obj))(s:AJ)(σ:St)(H:Hp)(v:V)(u:AF)(Q:St->Hp->Prop),Inv X pins σ H s->i7 v u->t v σ H Q ->
  AQ (model X.prog X.w) X.A (assign target X.env u) (λ_ s'=>∃σ' H',Inv X pins σ' H' s'/\Q σ' H') X.xe s
abbrev PGs(X:Cx)(ts:List AS)(t:TGs):Prop:=
 ∀(pins:List (AI×Obj))(s:AJ)(σ:St)(H:Hp)(vs:List V)(us:List AF)(Q:St->Hp->Prop),Inv X pins σ H s->g9 vs us->t vs σ H Q ->
  AQ (model X.prog X.w) X.A (assignInOrder ((CB ts X.env).map (·.2)) us) (λ_ s'=>∃σ' H',Inv X pins σ' H' s'/\Q σ' H') X.xe s
@[reducible]noncomputable def au0:=V->V->V->Hp->(Hp->Prop)->Prop
abbrev bm0(X:Cx)(t:au0):Prop:=
 ∀(pins:List (AI×Obj))(s:AJ)(σ:St)(H:Hp)(o i v:V)(ov iv u:AF)(Q:Hp->Prop),Inv X pins σ H s->i7 o ov->i7 i iv->i7 v u->t o i v H Q ->
  AQ (model X.prog X.w) X.A (KW ov iv u) (λ_ s'=>∃H',Inv X pins σ H' s'/\Q H') X.xe s
section
abbrev as0(i:Nat):TG:=λv σ H Q=>Q (σ.set i (AA v)) H
def ba6{i:Nat}{x:Str}(d:X.N.Nodup)(hi:X.N[i]?=AA x)(b:Loc X.env.scope x)(c:X.fn x=AC\/X.env.scope.names.lookup x=AA .local:=by first|exact .inl rfl|exact .inr rfl|assumption):PG X (.Name x pos) (as0 i):=by
 intro a s e H v u Q I r h;exact KY (V4 I d hi b r (λs' I'=>⟨_,H,I',h⟩) c)
abbrev bm1:TGs:=λvs σ H Q=>vs=[]/\Q σ H
abbrev bj6(t:TG)(u:TGs):TGs:=λvs σ H Q=>∃v r,vs=v::r/\t v σ H λσ' H'=>u r σ' H' Q
def ch3:PGs X [] bm1:=by
 intro a s b H vs us Q I r h;obtain⟨e,h⟩:=h;exact assignInOrder_nil ⟨b,H,I,h⟩
def b02{b:List AS}{t:TG}{u:TGs}(l:PG X e t)(k:PGs X b u)
  (j:(CB (e::b) X.env).map (·.2)=assign e X.env::(CB b X.env).map (·.2):=by rfl):PGs X (e::b) (bj6 t u):=by
 intro a s f H vs us Q I r h;obtain⟨v,p,m,h⟩:=h;subst m;cases r with
 |cons r g=>
  rw[j];refine assignInOrder_cons (thn (l a s f H _ _ _ I r h) λ_ s1 z9=>?_);obtain⟨c,o,n,i⟩:=z9;exact k a s1 c o _ _ Q n g i
abbrev c76(K:AM)(n:Nat)(t:TGs):TG:=λv σ H Q=>∃a xs,v=.ref a/\SqT K H a xs/\xs.length=n/\t xs σ H Q
def cl4{d:List AS}{k:Nat}{t:TGs}{n:Nat}(y:X.calm=AC)(h:PGs X d t)
  (w:(CB d X.env).length=n:=by rfl) (g:(CB d X.env).findIdx? (·.1)=AE:=by rfl):PG X (.Tuple d k pos) (c76 X.K n t):=by
 intro c s i H v u Q I r f;obtain⟨a,l,z,q,x,f⟩:=f;subst z;cases r;obtain⟨m,j,p,B⟩:=I.tuple q;refine assign_Tuple_tuple (I.ok.hd y) p (by simp[w,<-x,j.length]) g λh' hx=>?_;have A:Inv X c i H {s with heap:=h'}:=I.kept (t':=s.toks) λb o e=>hx b o (BI (Aq e)) e;exact h c _ i H l _ Q A (by simpa using j) f
abbrev db4(to ti:TE)(t:au0):TG:=λv σ H Q=>to σ H λo H1=>ti σ H1 λi H2=>t o i v H2 λH3=>Q σ H3
def cm9{o i:AS}{e f:TE}{t:au0}(n:PE X o e)(hi:PE X i f)(m:bm0 X t)
  (p:∀v,assign (.Subscript o i pos) X.env v=(do
   let ov <-holding [v] (eval o X.env)
   let iv <-holding [v,ov] (eval i X.env)
   Ho pos
   holding [v,ov,iv] (KW ov iv v)
   release [v,ov,iv] []):=by intro _;rfl):PG X (.Subscript o i pos) (db4 e f t):=by
 intro a s c H v u Q I r h;rw[p];refine AD (BO (thn (n a s c H _ I h) λov s1 z10=>?_));obtain⟨x,A,w,j,l⟩:=z10;refine AD (BO (thn (hi a s1 c A _ w l) λiv s2 z11=>?_));obtain⟨y,z,q,g,k⟩:=z11;refine AD (Ib (AD (BO (thn (m a s2 c z x y v ov iv u _ q j g r k) λ_ s3⟨H3,I3,q3⟩=>?_))));exact wpAny_release ⟨c,H3,I3,q3⟩
abbrev bk7(te:TE)(g:TG):TS:=λD σ H=>te σ H λx H1=>g x σ H1 D.nx
def cs2{g:TG}(k:PE X e te)(j:PG X tg g)(i:Gp [tg] e pos.line X.env=pure AG:=by rfl)(f:swappedStores [tg] e X.env=pure AE:=by rfl)
  (l:(CB [tg] X.env).map (·.2)=[assign tg X.env]:=by rfl):PS X (.Assign [tg] e pos) (bk7 te g):=by
 intro a s b H D I h;refine wpAny_Assign_stores (thn (k a s b H _ I h) λv s1 z12=>?_) i f;obtain⟨x,n,m,c,d⟩:=z12;rw[l];exact thn (j a s1 b n x v _ m c d) λ_ s2 q=>q
def bi2{i:Nat}{x:Str}{a:Pos}(m:X.N.Nodup)(hi:X.N[i]?=AA x)(g:Loc X.env.scope x)(l:PE X e te)(j:Cp e (AA (.Name x a)) pos.line X.env=pure AG:=by rfl)(k:X.fn x=AC\/X.env.scope.names.lookup x=AA .local:=by first|exact .inl rfl|exact .inr rfl|assumption):
  PS X (.Assign [.Name x a] e pos) (bk7 te (as0 i)):=by
 intro b s c H D I h;refine KZ (thn (l b s c H _ I h) λv s1 z13=>?_) j;obtain⟨y,o,n,d,f⟩:=z13;exact V4 n m hi g d (λs2 I2=>⟨_,o,I2,f⟩) k
end
section
abbrev cp5(c:TT)(tb:TS):TS:=λD σ H=>∃W:Nat->St->Hp->Prop,(∃m,W m σ H)/\∀m σ H,W m σ H ->
 c σ H λb H1=>if b=AC then ∃N:St->Hp->Prop,(∀σ' H',N σ' H'->∃m',m'<m/\W m' σ' H')/\tb {D with nx:=N,ct:=N,bk:=D.nx} σ H1 else D.nx σ H1
def by2{c}{body}{tc}{tb}(q:GX (model X.prog X.w) X.A X.env X.xe)(C:PT X c tc)(E:PSs X body tb):PS X (.While c body [] pos) (cp5 tc tb):=by
 intro d s x H D I h;obtain⟨W,⟨B,y⟩,g⟩:=h;refine wpAny_While (codeAny_whileLoop (λn s'=>∃e u,Inv X d e u s'/\W n e u) ?_ B ⟨x,H,I,y⟩);rintro n s1 ⟨σ1,H1,I1,w1⟩;refine Cj q (thn (C d s1 σ1 H1 _ I1 (g n σ1 H1 w1)) λb s2⟨H2,I2,j⟩=>?_);cases b with
 |true=>
  obtain⟨N,r,j⟩:=j;refine Cj q (thn (E d s2 σ1 H2 _ I2 j) λf s3 q3=>?_);cases f with
  |next=>
   obtain⟨a,i,p,l⟩:=q3;obtain⟨m,o,k⟩:=r a i l;exact⟨m,o,a,i,p,k⟩
  |cont=>
   obtain⟨a,i,p,l⟩:=q3;obtain⟨m,o,k⟩:=r a i l;exact⟨m,o,a,i,p,k⟩
  |brk=>exact q3
  |ret v=>exact q3
 |false=>
  exact Ci ⟨σ1,H2,I2,j⟩
end
structure It where
 go:Nat->Hp->Prop
 yld:Nat->Hp->V->Hp->Prop
 stop:Nat->Hp->Prop
abbrev C2(X:Cx)(pins:List (AI×Obj))(H:Hp)(b:AI):Prop:=
 H b=AE/\b≠X.env.locals/\b∉X.fs/\(b∈X.ex\/X.s₀.heap.objs.size<=b)/\(∀x c,X.env.cells.lookup x=AA c->c≠b)/\∀p∈X.pn++pins,p.1≠b
def Inv.fpOk{H'}{b:AI}(I:Inv X pins σ H s)(a:s.heap.objs.size<=b)(d:H' b=AE):C2 X pins H' b:=by
 refine⟨d,GO (Ah I.lt a),I.nofs a,.inr (Ax I.sz a),λx c e z=>?_,λp hp z=>?_⟩
 ·obtain⟨v,q⟩:=I.cell x c e;exact absurd (Ah q.lt (by simp_all)) (DJ _)
 ·exact absurd (Ah (Aq (I.pin p hp).1) (by simp_all)) (DJ _)
structure Turn(P:AZ)(w:At)(K:AM)(tg:AS)(J:It)(fp:List AI)(it:AI)(tn:Nat->Au->Prop):Prop where
 mem:it∈fp
 obj:∀i h,tn i h->∀b∈fp,∃o,h.get? b=AA o/\∀v,o.data≠.cell v
 keep:∀i h h',tn i h->(∀b∈fp,∀o,h.get? b=AA o->h'.get? b=AA o)->tn i h'
 item:∀(X:Cx),X.prog=P->X.w=w->X.K=K->X.calm=AC->∀(i:Nat)(pins:List (AI×Obj))(s:AJ)(σ:St)(H:Hp)(E:AF->AJ->Prop),Inv X pins σ H s->(∀b∈fp,C2 X pins H b)->tn i s.heap->J.go i H ->
  AQ (model P w) X.A (Ei (.ref it)) (λr s1=>∃u,r=AA u /\
   AQ (model P w) X.A (Fl tg (.ref it) u) (λ_ s2=>∃x H',Inv X pins σ H' s2/\i7 x u/\J.yld i H x H'/\tn (i+1) s2.heap/\∀b∈fp,H' b=AE) E s1) E s
 done:∀(X:Cx),X.prog=P->X.w=w->X.K=K->X.calm=AC->∀(i:Nat)(pins:List (AI×Obj))(s:AJ)(σ:St)(H:Hp)(E:AF->AJ->Prop),Inv X pins σ H s->(∀b∈fp,C2 X pins H b)->tn i s.heap->J.stop i H ->
  AQ (model P w) X.A (Ei (.ref it)) (λr s1=>r=AE/\Inv X pins σ H s1) E s
 self:∀(A:BG)(i:Nat)(s:AJ)(Q:AF->AJ->Prop)(E:AF->AJ->Prop),tn i s.heap->Q (.ref it) s->AQ (model P w) A (JB (.ref it)) Q E s
@[reducible]noncomputable def TI:=St->Hp->(It->Hp->Prop)->Prop
abbrev PIE(X:Cx)(pins:List (AI×Obj))(σ:St)(tg:AS)(R:It->Hp->Prop)(itv:AF)(s2:AJ):Prop:=
 ∃(it:AI)(fp:List AI)(tn:Nat->Au->Prop)(J:It)(H':Hp),itv=.ref it/\Inv X pins σ H' s2/\Turn X.prog X.w X.K tg J fp it tn/\tn 0 s2.heap/\(∀b∈fp,C2 X pins H' b)/\R J H'
abbrev PI(X:Cx)(tg iter:AS)(wi:TI):Prop:=
 ∀(pins:List (AI×Obj))(s:AJ)(σ:St)(H:Hp)(R:It->Hp->Prop),Inv X pins σ H s->wi σ H R ->
  AQ (model X.prog X.w) X.A (eval iter X.env) (λv s1=>AQ (model X.prog X.w) X.A (JB v) (PIE X pins σ tg R) X.xe s1) X.xe s
def ab3{M}{A}{E}{it}{o}{n}{vs}{Q}(b:s.heap.get? it=AA o)(e:o.cls=.type n)(d:o.data=.fields vs)
  (c:["enumerate","zip","dict_itemiterator","dict_reverseitemiterator","odict_iterator","itertools.zip_longest","itertools.pairwise"].contains n=AG) (a:Q () s):AQ M A (Fl tg (.ref it) u) Q E s:=by
 cases tg<;>first
  |exact AL a
  | (cases u <;> first
    |exact AL a
    | (refine AD (wpAny_load b ?_)
       rw[e,d];show AQ M A (if(["enumerate","zip","dict_itemiterator","dict_reverseitemiterator","odict_iterator","itertools.zip_longest","itertools.pairwise"].contains n&&vs[0]?==AA (Bt _))=AC then _ else _) Q E s;rw[if_neg (by intro h;rw[c]at h;cases h)];exact AL a))
abbrev Itl(K:AM)(a:AI):It:=
 ⟨λi H=>∃xs x,SqL K H a xs/\xs[i]?=AA x,λi H x H'=>H'=H/\∀xs,SqL K H a xs->xs[i]?=AA x,λi H=>∃xs,SqL K H a xs/\xs.length<=i⟩
abbrev Itt(K:AM)(a:AI):It:=
 ⟨λi H=>∃xs x,SqT K H a xs/\xs[i]?=AA x,λi H x H'=>H'=H/\∀xs,SqT K H a xs->xs[i]?=AA x,λi H=>∃xs,SqT K H a xs/\xs.length<=i⟩
abbrev Itr(lo:Int)(n:Nat):It:=⟨λi _=>i<n,λi H x H'=>H'=H/\x=.int (lo+i),λi _=>n<=i⟩
def bu2{w:At}{K:AM}(a g:AI):Turn P w K tg (Itl K a) [g] g (λi h=>h.IsListIter g a i) where
 mem:=by simp
 obj:=λi h st b hb=>by
  have e:b=g:=by simpa using hb
  subst e;obtain⟨o,e,c,d⟩:=st;exact⟨o,e,λv z=>by rw[d]at z;cases z⟩
 keep:=λi h h' st k=>st.at λo e=>k g ∎ o e
 item:=by
  intro X v r y J i f s G H E I l st t;subst v r y;obtain⟨L,x,j,q⟩:=t;obtain⟨n,m,p,N⟩:=I.list j;obtain⟨u,O,M⟩:=m.get q;obtain⟨F,D,Q,C,B,A⟩:=l g ∎;refine wpAny_pyNext_list_item st p.isList (x:=u) (by simpa using O) λh' st' sb=>?_;have R:Inv X f G H {s with heap:=h'}:=I.turned (t':=s.toks) (λb o hb e=>(sb.2 b hb).trans e) F D C B A;obtain⟨o,e,c,d⟩:=id st';exact⟨u,rfl,ab3 (s:={s with heap:=h'}) e c d ∅ ⟨x,H,R,M,⟨rfl,λys hy=>by rw[I.list_inj hy j];exact q⟩,st',λb hb=>(l b hb).1⟩⟩
 done:=by
  intro X v r y J i f s G H E I l st t;subst v r y;obtain⟨L,j,q⟩:=t;obtain⟨n,m,p,N⟩:=I.list j;obtain⟨F,D,Q,C,B,A⟩:=l g ∎;have S:=m.length;exact wpAny_pyNext_list_end (I.ok.hd J) st p.isList (by simp;lia) λh' eb=>⟨rfl,I.turned (t':=s.toks) (λb o hb e=>eb b o hb e) F D C B A⟩
 self:=λ_ _ _ _ _ st h=>wpAny_pyIter_listiter st h
def br1{w:At}{K:AM}(a j:AI):Turn P w K tg (Itt K a) [j] j (λi h=>h.IsTupleIter j a i) where
 mem:=by simp
 obj:=λi h st b hb=>by
  have e:b=j:=by simpa using hb
  subst e;obtain⟨o,e,c,d⟩:=st;exact⟨o,e,λv z=>by rw[d]at z;cases z⟩
 keep:=λi h h' st k=>st.at λo e=>k j ∎ o e
 item:=by
  intro X v r y J i f s G H E I m st t;subst v r y;obtain⟨L,x,l,q⟩:=t;obtain⟨g,n,p,N⟩:=I.tuple l;obtain⟨u,O,M⟩:=n.get q;obtain⟨F,D,Q,C,B,A⟩:=m j ∎;refine wpAny_pyNext_tuple_item st (show s.heap.IsTuple a g.toArray from p) (x:=u) (by simpa using O) λh' st' sb=>?_;have R:Inv X f G H {s with heap:=h'}:=I.turned (t':=s.toks) (λb o hb e=>(sb.2 b hb).trans e) F D C B A;obtain⟨o,e,c,d⟩:=id st';exact⟨u,rfl,ab3 (s:={s with heap:=h'}) e c d ∅ ⟨x,H,R,M,⟨rfl,λys hy=>by rw[I.tuple_inj hy l];exact q⟩,st',λb hb=>(m b hb).1⟩⟩
 done:=by
  intro X v r y J i f s G H E I m st t;subst v r y;obtain⟨L,l,q⟩:=t;obtain⟨g,n,p,N⟩:=I.tuple l;obtain⟨F,D,Q,C,B,A⟩:=m j ∎;have S:=n.length;exact wpAny_pyNext_tuple_end (I.ok.hd J) st (show s.heap.IsTuple a g.toArray from p) (by simp;lia) λh' eb=>⟨rfl,I.turned (t':=s.toks) (λb o hb e=>eb b o hb e) F D C B A⟩
 self:=λ_ _ _ _ _ st h=>wpAny_pyIter_tupleiter st h
def br0{w:At}{K:AM}(c:AI)(lo:Int)(n:Nat):Turn P w K tg (Itr lo n) [c] c (λi h=>IsRangeIter h c (lo+(i:Nat)*1) ((n:Int)-(i:Nat)) 1) where
 mem:=by simp
 obj:=λi h st b hb=>by
  simp_all
 keep:=λi h h' st k=>k c ∎ _ st
 item:=by
  intro X v u x g i a s r H E I d st f;subst v u x;obtain⟨q,p,y,m,l,j⟩:=d c ∎;have W:=Walks.range (prog:=X.prog) (w:=X.w) (I.ok.hd g) c lo 1 n;refine W.item i s _ _ f st λv h' tk hv st' kk=>?_;obtain⟨t,rfl⟩:=hv;have z:Inv X a r H {s with heap:=h',toks:=tk}:=I.turned (λb o hb e=>kk b o (by simpa using hb) e) q p m l j;refine⟨_,rfl,ab3 (s:={s with heap:=h',toks:=tk}) (n:="range_iterator") st' rfl rfl ∅ ⟨.int (lo+i),H,z,⟨t,?_⟩,⟨rfl,rfl⟩,st',λb hb=>(d b hb).1⟩⟩;rw[Int.mul_one]
 done:=by
  intro X v u x g i a s r H E I d st f;obtain⟨q,p,y,m,l,j⟩:=d c ∎;exact wpAny_pyNext_range_end (I.ok.hd g) st (by have:n<=i:=f;lia) λh' eb=>⟨rfl,I.turned (t':=s.toks) (λb o hb e=>eb b o hb e) q p m l j⟩
 self:=λ_ _ _ _ _ st h=>wpAny_pyIter_rangeiter st h
end
section
variable{pins:List (AI×Obj)}{σ:St}{H:Hp}{s:AJ}{fp:List AI}
section
variable {X:Cx} {tg:AS}
def a72{R}{E}{lo hi}{t u v}{tk}(I:Inv X pins σ H s)(g:-(2^62)<=lo)(f:lo<2^62)(d:-(2^62)<=hi)(c:hi<2^62)
  (q:R (Itr lo (hi-lo).toNat) H):AQ (model X.prog X.w) X.A (JB (.ref s.heap.objs.size)) (PIE X pins σ tg R) E {s with heap:=s.heap.push {cls:=.type "range",data:=.fields #[.int lo t,.int hi u,.int 1 v]},toks:=tk}:=by
 refine wpAny_pyIter_range (IsRange.new ..) (small_one g f d c) ?_;have a:Inv X pins σ H {s with heap:=s.heap.push {cls:=.type "range",data:=.fields #[.int lo t,.int hi u,.int 1 v]},toks:=tk}:=I.kept λb o=>AN _;refine⟨(s.heap.push {cls:=.type "range",data:=.fields #[.int lo t,.int hi u,.int 1 v]}).objs.size,[(s.heap.push {cls:=.type "range",data:=.fields #[.int lo t,.int hi u,.int 1 v]}).objs.size],_,_,H,rfl,
  a.kept λb o=>AN _,br0 _ lo (hi-lo).toNat,?_,λb hb=>?_,q⟩
 ·have i:lo+((0:Nat))*1=lo:=by simp
  have h:((hi-lo).toNat:Nat)-((0:Nat))=Kt lo hi 1:=by rw[rangeSize_one];split<;>lia
  rw[i,h];exact Ar _ rfl
 ·have e:b=(s.heap.push {cls:=.type "range",data:=.fields #[.int lo t,.int hi u,.int 1 v]}).objs.size:=by simpa using hb
  subst e;exact a.fpOk (AX _) (a.hok.fresh (AX _))
abbrev cw6(ta:TA):TI:=λσ H R=>ta σ H λvs H1=>∃j:Int,vs=[.int j]/\-(2^62)<=j/\j<2^62/\R (Itr 0 j.toNat) H1
abbrev cw7(ta:TA):TI:=λσ H R=>ta σ H λvs H1=>∃i j:Int,vs=[.int i,.int j]/\(-(2^62)<=i/\i<2^62/\-(2^62)<=j/\j<2^62)/\R (Itr i (j-i).toNat) H1
def bv0{a:AS}{d:TA}{p pos:Pos}(o:Gl X "range")(n:X.mg "range"=AE)(u:PA X [a] d)(m:Aj [a] X.env=[(AG,eval a X.env)]:=by rfl):PI X tg (.Call (.Name "range" p) [a] [] pos) (cw6 d):=by
 intro b s g H R I h;refine JX (L7 I o n boot_range (BH (thn (u pos b s g H _ I h) λus s1 z14=>?_) m rfl));obtain⟨vs,w,v,k,c⟩:=z14;obtain⟨j,e,c,l,q⟩:=c;subst e;cases k with
 |cons r i=>
  cases i;obtain⟨t,rfl⟩:=r;exact call_range_1 (a72 v ⋯ ⋯ c l (by simpa using q))
def bv4{a b:AS}{l:TA}{p pos:Pos}(z:Gl X "range")(y:X.mg "range"=AE)(A:PA X [a,b] l)(x:Aj [a,b] X.env=[(AG,eval a X.env),(AG,eval b X.env)]:=by rfl)(d:Aj [b] X.env=[(AG,eval b X.env)]:=by rfl):
  PI X tg (.Call (.Name "range" p) [a,b] [] pos) (cw7 l):=by
 intro c s m H R I h;refine JX (L7 I z y boot_range (BH (thn (A pos c s m H _ I h) λus s1 z15=>?_) (by rw[x,d]) (by rw[d];rfl)));obtain⟨vs,C,B,n,k⟩:=z15;obtain⟨i,j,e,⟨k,w,v,u⟩,q⟩:=k;subst e;cases n with
 |cons r g=>
  cases g with
  |cons o g=>
   cases g;obtain⟨t,rfl⟩:=r;obtain⟨t',rfl⟩:=o;exact call_range_2 (a72 B k w v u q)
abbrev dd7(wi:TI)(g:TG)(tb:TS):TS:=λD σ H=>wi σ H λJ H1=>∃W:Nat->Nat->St->Hp->Prop,(∃m,W 0 m σ H1)/\∀i m σ H,W i m σ H ->
 (J.stop i H/\D.nx σ H)\/(J.go i H/\∃N:St->Hp->Prop,(∀σ' H',N σ' H'->∃m',m'<m/\W (i+1) m' σ' H')/\∀x H',J.yld i H x H'->g x σ H' λσ2 H2=>tb {D with nx:=N,ct:=N,bk:=D.nx} σ2 H2)
abbrev Z9(fp:List AI)(h:Au):List (AI×Obj):=fp.filterMap λb=>(h.get? b).map λo=>(b,o)
def ae7{h}{b}{o}(a:b∈fp)(e:h.get? b=AA o):(b,o)∈Z9 fp h:=Ip.mpr ⟨b,a,by rw[e];rfl⟩
def bu5{h}{p}(a:p∈Z9 fp h):p.1∈fp/\h.get? p.1=AA p.2:=by
 obtain⟨b,c,e⟩:=Ip.mp a;cases q:h.get? b with
 |none=>simp_all
 |some o=>
  rw[q]at e;have d:=BA e;subst d;exact⟨c,q⟩
def Inv.pinned(I:Inv X pins σ H s)(f:∀b∈fp,C2 X pins H b)(c:∀b∈fp,∃o,s.heap.get? b=AA o/\∀v,o.data≠.cell v):=
 I.pins_of λp hp=>(Bf.mp hp).elim (λz=>I.pin p (BK _ z)) λz=>by
  obtain⟨a,e⟩:=bu5 z;obtain⟨j,i,h,_⟩:=f p.1 a;obtain⟨o,g,d⟩:=c p.1 a;rw[e]at g;simp_all
def Inv.unpinned{pl}(I:Inv X (pins++pl) σ H s):=I.pins_of λp hp=>I.pin p (BK _ (EM _ hp))
def cj9{l:AS}{B:List BP}{U:TI}{g:TG}{Y:TS}{pos:Pos}(L:GX (model X.prog X.w) X.A X.env X.xe)(Z:X.calm=AC)(hi:PI X tg l U)(hg:PG X tg g)(p:PSs X B Y)
  (hs:∀x,Dd l X.env x=pure x:=by intro _;rfl):PS X (.For tg l B [] pos) (dd7 U g Y):=by
 intro c s S H D I h;refine wpAny_For (thn (hi c s S H _ I h) λv s1 h1=>thn h1 λitv s2 h2=>?_) hs;obtain⟨it,M,V,J,H2,e,I2,T,P,f2,W,⟨m0,w0⟩,E⟩:=h2;subst e;have k:∀{y:Hp},(∀b∈M,y b=AE)->∀b∈M,C2 X c y b:=λhn b p=>⟨hn b p,(f2 b p).2⟩;refine codeAny_forLoop_any (λn s'=>∃i j y,Inv X c j y s'/\V i s'.heap/\(∀b∈M,y b=AE)/\W i n j y) ?_ m0 ⟨0,S,H2,I2,P,λb p=>(f2 b p).1,w0⟩;rintro n s3 ⟨i,σ3,H3,I3,st3,fr3,w3⟩
 rcases E i n σ3 H3 w3 with⟨F,qn⟩|⟨go,N,hN,G⟩
 ·refine Cj L (thn (T.done X rfl rfl rfl Z i c s3 σ3 H3 X.xe I3 (k fr3) st3 F) λr s4⟨hr,I4⟩=>?_);subst hr;exact Ci ⟨σ3,H3,I4,qn⟩
 ·refine Cj L (thn (T.item X rfl rfl rfl Z i c s3 σ3 H3 X.xe I3 (k fr3) st3 go) λr s4⟨u,hr,h4⟩=>?_);subst hr;refine Cj L (thn h4 λ_ s5 z16=>?_);obtain⟨x,H5,I5,r5,y5,C,Q⟩:=z16;have R:=I5.pinned (k Q) (T.obj _ _ C);refine Cj L (thn (hg _ s5 σ3 H5 x u _ R r5 (G x H5 y5)) λ_ s6 z17=>?_);obtain⟨O,H6,I6,q6⟩:=z17;refine Cj L (thn (p _ s6 O H6 _ I6 q6) λf s7 z=>?_);have q:∀{a:St}{t:Hp},Inv X (c++Z9 M s5.heap) a t s7->N a t->∃m,m<n/\∃i j y,Inv X c j y s7/\V i s7.heap/\(∀b∈M,y b=AE)/\W i m j y:=λ{a t}r K=>by
   obtain⟨m',hm,w7⟩:=hN a t K;refine⟨m',hm,i+1,a,t,r.unpinned,T.keep _ _ _ C λb p o e=>(r.pin (b,o) (BK _ (BK _ (ae7 p e)))).1,λb p=>?_,w7⟩;obtain⟨o,e,d⟩:=T.obj _ _ C b p;exact(r.pin (b,o) (BK _ (BK _ (ae7 p e)))).2.1
  cases f with
  |next=>obtain⟨a,t,r,K⟩:=z;exact q r K
  |cont=>obtain⟨a,t,r,K⟩:=z;exact q r K
  |brk=>obtain⟨a,t,r,z⟩:=z;exact⟨a,t,r.unpinned,z⟩
  |ret v=>obtain⟨x7,a,t,r,r7,z⟩:=z;exact⟨x7,a,t,r.unpinned,r7,z⟩
end
end
section
variable{op:EO}
@[reducible]noncomputable def R2:=V->V->Hp->VK->Prop
variable{r:R2}
abbrev OpR(X:Cx)(f:AF->AF->Sem AF)(r:R2):Prop:=
 ∀(pins:List (AI×Obj))(s:AJ)(σ:St)(H:Hp)(x y:V)(v u:AF)(Q:VK),Inv X pins σ H s->i7 x v->i7 y u->r x y H Q ->
  AQ (model X.prog X.w) X.A (f v u) (EP X pins σ Q) X.xe s
abbrev UnR(X:Cx)(f:AF->Sem AF)(r:V->Hp->VK->Prop):Prop:=
 ∀(pins:List (AI×Obj))(s:AJ)(σ:St)(H:Hp)(x:V)(v:AF)(Q:VK),Inv X pins σ H s->i7 x v->r x H Q ->
  AQ (model X.prog X.w) X.A (f v) (EP X pins σ Q) X.xe s
abbrev G6(X:Cx)(f:AF)(r:List V->Hp->VK->Prop):Prop:=
 ∀(pins:List (AI×Obj))(s:AJ)(σ:St)(H:Hp)(xs:List V)(us:List AF)(Q:VK),Inv X pins σ H s->g9 xs us->r xs H Q ->
  AQ (model X.prog X.w) X.A (call f us) (EP X pins σ Q) X.xe s
abbrev tOp(r:R2)(ta tb:TE):TE:=λσ H Q=>ta σ H λx H1=>tb σ H1 λy H2=>r x y H2 Q
abbrev tUn(r:V->Hp->VK->Prop)(ta:TE):TE:=λσ H Q=>ta σ H λx H1=>r x H1 Q
abbrev rI(C:Int->Int->Prop)(g:Int->Int->V):R2:=λx y H Q=>∃i j,x=.int i/\y=.int j/\C i j/\Q (g i j) H
abbrev rI0(g:Int->Int->V):R2:=λx y H Q=>∃i j,x=.int i/\y=.int j/\Q (g i j) H
abbrev rU(g:Int->V):V->Hp->VK->Prop:=λx H Q=>∃i,x=.int i/\Q (g i) H
section
variable {X:Cx} {a b c:AS} {ta tb tc:TE} {pos:Pos}
def au1(o:PE X a ta)(n:PE X b tb){pins}{s}{c:St}{H}{R:V->V->Hp->Prop}(I:Inv X pins c H s)
  (h:ta c H λx g=>tb c g λy d=>R x y d) {Q} {f:AF->AF->Sem AF}
  (m:∀v u e x y d,Inv X pins c d e->i7 x v->i7 y u->R x y d->AQ (model X.prog X.w) X.A (f v u) Q X.xe e) :
  AQ (model X.prog X.w) X.A (eval a X.env) (λv s₁=>AQ (model X.prog X.w) X.A (eval b X.env) (λu s₂=>AQ (model X.prog X.w) X.A (f v u) Q X.xe s₂) X.xe s₁) X.xe s:=by
 refine thn (o pins s c H _ I h) λv s1 z18=>?_;obtain⟨x,g,q,j,l⟩:=z18;refine thn (n pins s1 c g _ q l) λu e z19=>?_;obtain⟨y,d,p,i,k⟩:=z19;exact m v u e x y d p j i k
def U1{op}(c:OpR X (ED op) r)(e:PE X a ta)(d:PE X b tb):PE X (.BinOp a op b pos) (tOp r ta tb):=(λpins s σ H Q I h=>wpAny_BinOp (au1 e d I h λv u s2 x y H2 I2=>c pins s2 σ H2 x y v u Q I2))
def c26{op}{r}(b:UnR X (unaryOp op) r)(c:PE X a ta):PE X (.UnaryOp op a pos) (tUn r ta):=λpins s σ H Q I h=>UnaryOp_ (thn (c pins s σ H _ I h) λv s1⟨x,H1,I1,r1,q1⟩=>b pins s1 σ H1 x v Q I1 r1 q1)
def opI{f}{C}{g:Int->Int->Int}
  (a:∀i j(t u)s(Q)E,C i j->Q (.int (g i j) s.toks) {s with toks:=s.toks+1}->AQ (model X.prog X.w) X.A (f (.int i t) (.int j u)) Q E s) :
  OpR X f (rI C λi j=>.int (g i j)):=by
 intro b s k H x y v u Q I d c h;obtain⟨i,j,rfl,rfl,e,q⟩:=h;obtain⟨t,rfl⟩:=d;obtain⟨t',rfl⟩:=c;exact a i j t t' s _ _ e ⟨.int (g i j),H,I.tok _,⟨_,rfl⟩,q⟩
def bk9{f}{g:Int->Int->Int}
  (a:∀i j(t u)s(Q)E,Q (.int (g i j) s.toks) {s with toks:=s.toks+1}->AQ (model X.prog X.w) X.A (f (.int i t) (.int j u)) Q E s) :
  OpR X f (rI0 λi j=>.int (g i j)):=by
 intro b s e H x y v u Q I d c h;obtain⟨i,j,rfl,rfl,q⟩:=h;obtain⟨t,rfl⟩:=d;obtain⟨t',rfl⟩:=c;exact a i j t t' s _ _ ⟨.int (g i j),H,I.tok _,⟨_,rfl⟩,q⟩
def aj1{f}{g:Int->Int->Bool}
  (a:∀i j(t u)s(Q)E,Q (.bool (g i j)) s->AQ (model X.prog X.w) X.A (f (.int i t) (.int j u)) Q E s) :
  OpR X f (rI0 λi j=>.bl (g i j)):=by
 intro b s e H x y v u Q I d c h;obtain⟨i,j,rfl,rfl,q⟩:=h;obtain⟨t,rfl⟩:=d;obtain⟨t',rfl⟩:=c;exact a i j t t' s _ _ ⟨.bl (g i j),H,I,rfl,q⟩
abbrev au3(i j:Int):Prop:=0<=j/\j<=1000000/\i.natAbs<2^64
abbrev au6(i j:Int):Prop:=(-(2^64)<i/\i<2^64)\/(-(2^64)<j/\j<2^64)
def au6.ok{i j}(h:au6 i j):Ll i j:=by
 rcases h with⟨b,a⟩|⟨b,a⟩
 ·exact .of_left (intBits_le_64 b a)
 ·exact .of_right (intBits_le_64 b a)
def cu8:OpR X (ED .Add) (rI0 λi j=>.int (i+j)):=bk9 λ_ _ _ _ _ _ _=>add_int
def ck8:OpR X (ED .Sub) (rI0 λi j=>.int (i-j)):=bk9 λ_ _ _ _ _ _ _=>sub_int
def cv3:OpR X (ED .Mod) (rI (λ_ j=>0<j) λi j=>.int (i % j)):=opI λi j _ _ _ _ _ hc q=>by
 exact mod_int' ⋯ (by rw[Int.fmod_eq_emod_of_nonneg i ⋯];exact q)
def ci7:OpR X (ED .Pow) (rI au3 λi j=>.int (i^j.toNat)):=opI λ_ _ _ _ _ _ _ hc=>pow_int_small hc.1 hc.2.1 hc.2.2
def unI{f}{g:Int->Int}
  (a:∀i(t)s(Q)E,Q (.int (g i) s.toks) {s with toks:=s.toks+1}->AQ (model X.prog X.w) X.A (f (.int i t)) Q E s) :
  UnR X f (rU λi=>.int (g i)):=by
 intro b s d H x v Q I c h;obtain⟨i,rfl,q⟩:=h;obtain⟨t,rfl⟩:=c;exact a i t s _ _ ⟨.int (g i),H,I.tok _,⟨_,rfl⟩,q⟩
def cr9:UnR X (unaryOp .USub) (rU λi=>.int (-i)):=unI λ_ _ _ _ _=>neg_int
end
section
variable {X:Cx} {a b c:AS} {ta tb tc:TE} {pos:Pos}
def cz9:OpR X (Co .Lt) (rI0 λi j=>.bl (AB (i<j))):=aj1 λ_ _ _ _ _ _ _=>lt_int
def cz0:OpR X (Co .LtE) (rI0 λi j=>.bl (AB (i<=j))):=aj1 λ_ _ _ _ _ _ _=>le_int
def cz5:OpR X (Co .Gt) (rI0 λi j=>.bl (AB (j<i))):=aj1 λ_ _ _ _ _ _ _=>gt_int
def c71:OpR X (Co .GtE) (rI0 λi j=>.bl (AB (j<=i))):=aj1 λ_ _ _ _ _ _ _=>ge_int
def OpR.or{f}{r'}(h:OpR X f r)(h':OpR X f r'):OpR X f λx y H Q=>r x y H Q\/r' x y H Q:=by
 intro a s b H x y v u Q I d c q
 rcases q with q|q
 ·exact h a s b H x y v u Q I d c q
 ·exact h' a s b H x y v u Q I d c q
def de9(b:AS)(h:op≠.In:=by decide)(a:op≠.NotIn:=by decide):CM op b=AG:=by
 have d:(op==CmpOp.In)=AG:=by cases op<;>first|rfl|exact absurd rfl h
 have c:(op==II)=AG:=by cases op<;>first|rfl|exact absurd rfl a
 cases b<;>simp[CM,d,c]
def bb7(c:OpR X (Co op) r)(f:PE X a ta)(e:PE X b tb)(d:CM op b=AG):PE X (.Compare a [op] [b] pos) (tOp r ta tb):=(λpins s σ H Q I h=>Lk (au1 f e I h λv u s2 x y H2 I2=>c pins s2 σ H2 x y v u Q I2) d)
abbrev cw5(t:TE):TT:=λσ H Q=>t σ H λx H'=>∃k,x=.bl k/\Q k H'
def ba5(f:OpR X (Co op) r)(j:PE X a ta)(i:PE X b tb)(g:CM op b=AG):PT X (.Compare a [op] [b] pos) (cw5 (tOp r ta tb)):=by
 intro c s d H Q I h;refine JR (thn (j c s d H _ I h) λv s1⟨x,H1,I1,r1,q1⟩=>thn (i c s1 d H1 _ I1 q1) λu s2⟨y,H2,I2,r2,q2⟩=>
  thn (f c s2 d H2 x y v u _ I2 r1 r2 q2) λc s3⟨z,H3,I3,r3,k,e,q3⟩=>?_) g
 subst e;cases r3;exact Cu ⟨H3,I3,q3⟩
def ag2:(sizeLine:Nat)<2^63:=by rw[GP];decide
def W6{x}{us}(r:g9 [x] us):∃u,us=[u]/\i7 x u:=by
 cases r with
 |cons c b=>cases b;exact⟨_,rfl,c⟩
def cx5{x y}{us}(r:g9 [x,y] us):∃u b,us=[u,b]/\i7 x u/\i7 y b:=by
 cases r with
 |cons f e=>
  cases e with
  |cons d c=>cases c;exact⟨_,_,rfl,f,d⟩
def b33:G6 X (.builtin "abs") λxs H Q=>∃i,xs=[.int i]/\Q (.int (if i<0 then -i else i)) H:=by
 intro a s c H xs us Q I r h;obtain⟨i,rfl,q⟩:=h;obtain⟨u,rfl,t,rfl⟩:=W6 r;exact call_abs_int λu tk=>⟨.int (if i<0 then -i else i),H,I.tok _,⟨_,rfl⟩,q⟩
def bt6(d:X.calm=AC):G6 X (.builtin "max") λxs H Q=>∃i j,xs=[.int i,.int j]/\Q (.int (if j>i then j else i)) H:=by
 intro b s e H xs us Q I r h;obtain⟨i,j,rfl,q⟩:=h;obtain⟨u,f,rfl,⟨t,rfl⟩,⟨t',rfl⟩⟩:=cx5 r;refine max_two_ints (I.ok.hd d) λh' tk k=>⟨_,H,I.kept k,?_,q⟩
 by_cases a:j>i
 ·rw[if_pos a,if_pos a];exact⟨_,rfl⟩
 ·rw[if_neg a,if_neg a];exact⟨_,rfl⟩
def bt1:G6 X (.type "int") λxs H Q=>(∃i,xs=[.int i]/\Q (.int i) H)\/∃k,xs=[.bl k]/\Q (.int (if k then 1 else 0)) H:=by
 intro b s d H xs us Q I r h
 rcases h with⟨i,rfl,q⟩|⟨k,rfl,q⟩
 ·obtain⟨u,rfl,t,rfl⟩:=W6 r;exact call_int_int ⟨.int i,H,I,⟨_,rfl⟩,q⟩
 ·obtain⟨u,rfl,c⟩:=W6 r;cases c;exact call_int_bool ⟨.int (if k then 1 else 0),H,I.tok _,⟨_,rfl⟩,q⟩
end
end
section
variable{h:Au}{dx C:AI}{mA:Str->Option AF}{w:At}{A:BG}{s:AJ}{f:Str}{v:V}{Q:AF->AJ->Prop}{u:AF}{H:Hp}{X:Cx}
structure ObjM(h:Au)(x dx C:AI)(mA:Str->Option AF):Prop where
 obj:h.get? x=AA (EN C dx)
 ns:h.Ns1 dx mA
 ne:dx≠x
def bw2(n:h.Ns1 dx mA):∃c,h.get? dx=AA c/\∀name,Fw name c=AA (mA name):=by
 obtain⟨o,k,m,f,j,i,_,g⟩:=n;refine⟨o,f,λname=>?_⟩;have e:=g name;unfold Lm KC at e;rw[<-Array.find?_toList]at e;unfold Fw;rw[j];dsimp only
 split
 ·simp_all
 ·rename_i q;rw[q]at e;have a:k.toList.any (·.refKey)=AG:=by
   rw[HD];intro y d;obtain⟨z,t,b⟩:=i y (Array.mem_toList_iff.mp d);simp[DictEntry.refKey,b]
  have l:=a▸AH
  rw[if_neg l];exact congrArg AA e
def ObjM.look{x}(I:ObjM h x dx C mA):∃a,Ku h x (EN C dx) C (AA a)/\∀name,Fw name a=AA (mA name):=
 let⟨a,b,c⟩:=bw2 I.ns
 ⟨a,⟨I.obj,rfl,rfl,b⟩,c⟩
section
variable {prog:AZ} {E:AF->AJ->Prop} {K:AM} {x f:AI} {name:Str} {v:AF}
def cg1{expr}(X:K.In s.heap)(I:ObjM s.heap x dx C mA)(e:Gd K C name=AC)(d:HM K C=AC)
  (f:Av K (.ref C) name=AA AE) (b:mA name=AA v) (a:W.handedIn v=AC) (h:Q v {s with toks:=s.toks+1}) :
  AQ (model prog w) A (JC (.ref x) name expr) Q E s:=by
 obtain⟨g,J,c⟩:=I.look;exact W.get_value X J (IJ e).1 (W.findObj_own d f rfl (by rw[c,b])) a h
def b50{pl}{Q}(X:K.In s.heap)(I:ObjM s.heap x dx C mA)(a:Gd K C name=AC)
  (g:Av K (.ref C) name=AA (AA (.ref f))) (d:Ic K (.ref f)=AC) (c:mA name=AE) (h:Q (.ref f,[.ref x]) s) :
  AQ (model prog w) A (Kv (.ref x) name pl) Q E s:=by
 obtain⟨b,J,e⟩:=I.look;exact W.method_fn X J (IJ a).1 (IJ a).2 g (beq_iff_eq.mp d) (by show(Fw name b).map (·.isSome)=AA AG;rw[e,c];rfl) h
def b88{ns}{Q}(X:K.In s.heap)(I:ObjM s.heap x dx C mA)
  (i:Av K (.ref C) "__setattr__"=AA (AA (.builtin "object.__setattr__"))) (j:JD K C=AC) (g:KD K C name=AA AE) (k:HM K C=AC)
  (f:PySem.Within mA ns) (hsz:ns.length<=sizeLine)
  (h:∀h',ObjM h' x dx C (λy=>if y=name then AA v else mA y)->BB dx s.heap h'->Q () {s with heap:=h',toks:=s.toks+2}) :
  AQ (model prog w) A (Ka (.ref x) name v) Q E s:=by
 obtain⟨o,J,q⟩:=I.look;refine W.set_plain X J i (W.osa_open X J j g λb=>?_);obtain⟨r,l,c⟩:=W.any_some k;have e:=I.obj;refine AD (AL (AD (AD (Ln e (AD (JY (W.looks_clsIn X l) ?_))))));rw[c];refine AL (AD (AL (AD ?_)));refine wpAny_nsSet1 I.ns λh' hn2 hs2=>?_;obtain⟨p,m,n,a,b,d⟩:=hn2.count (PySem.Within.cons name v f);exact AD (Kw a (by rw[b];exact Kx (Ax d (by rw[AY];lia))) (AL (h _ ⟨(hs2.2 _ (Ao I.ne)).trans I.obj,hn2,I.ne⟩ hs2)))
def b27{R}{vs}{kw}(X:K.In s.heap)(a:IS K C=AC)
  (hi:Av K (.ref C) "__init__"=AA (AA (.ref f))) (b:W.typeIn K (.ref f)=AA (.type "function"))
  (h:Dz (model prog w) (A.under (.builtin "type.__call__" ⟨.ref C::vs,kw⟩)) (.call (.ref f) ⟨.ref (s.heap.objs.size+1)::vs,kw⟩) (W.InitBack (s.heap.objs.size+1) R)
   {s with heap:=(s.heap.push Cw).push (EN C s.heap.objs.size)}) :
  Dz (model prog w) A (.call (.ref C) ⟨vs,kw⟩) R s:=by
 exact W.make_core (W.makes_of X a) (W.looks_findIn X hi) (λself=>W.bind_fn X self b) (.inl rfl) h
end
abbrev z7(f:Str)(v:V):List (Str×V)->List (Str×V)
 |[]=>[(f,v)]
 |(g,x)::r=>if g=f then(g,v)::r else(g,x)::z7 f v r
theorem aw9 f g(v):∀c,(z7 f v c).lookup g=if g=f then AA v else c.lookup g
 |[]=>by
  show DP g [(f,v)]=_
  by_cases h:g=f
  ·simp_all
  ·simp_all
 |(k,x)::r=>by
  have d:=aw9 f g v r;rw[show z7 f v ((k,x)::r)=if k=f then(k,v)::r else(k,x)::z7 f v r from rfl]
  by_cases a:k=f
  ·rw[if_pos a]
   by_cases h:g=k
   ·simp_all
   ·have b:=beq_eq_false_iff_ne.mpr h;simp only[DP,b,if_neg λe:g=f=>h (e.trans a.symm)]
  ·rw[if_neg a]
   by_cases h:g=k
   ·simp_all
   ·have b:=beq_eq_false_iff_ne.mpr h;simp only[DP,b];exact d
theorem an7 f(v):∀a:List (Str×V),f∈(z7 f v a).map (·.1)/\∀g,g∈a.map (·.1)->g∈(z7 f v a).map (·.1)
 |[]=>⟨by simp[z7],λg h=>by simp at h⟩
 |(k,x)::r=>by
  obtain⟨c,b⟩:=an7 f v r;rw[show z7 f v ((k,x)::r)=if k=f then(k,v)::r else(k,x)::z7 f v r from rfl]
  by_cases d:k=f
  ·simp_all
  ·rw[if_neg d];refine⟨?_,λg h=>?_⟩
   ·exact Am _ c
   ·rcases AR.mp h with e|e
    ·exact mem_cons.mpr (.inl e)
    ·exact Am _ (b g e)
theorem aw7 f(v):∀a,(z7 f v a).length<=a.length+1
 |[]=>by simp[z7]
 |(k,x)::r=>by
  have b:=aw7 f v r;rw[show z7 f v ((k,x)::r)=if k=f then(k,v)::r else(k,x)::z7 f v r from rfl]
  by_cases c:k=f
  ·simp_all
  ·simp_all
def A7.some_of{o}(r:A7 (AA v) o):∃u,o=AA u/\i7 v u:=by
 cases o with
 |none=>exact(r).elim
 |some u=>exact⟨u,rfl,r⟩
def A7.none_of{o}(r:A7 AE o):o=AE:=by
 cases o with
 |none=>rfl
 |some u=>exact(r).elim
def bu3(r:i7 v u):W.handedIn u=AC:=by
 cases v with
 |non=>cases r;rfl
 |bl b=>cases r;rfl
 |int i=>obtain⟨t,e⟩:=r;cases e;rfl
 |str x=>obtain⟨t,e⟩:=r;cases e;rfl
 |byt b=>obtain⟨t,e⟩:=r;cases e;rfl
 |flt b=>obtain⟨t,e⟩:=r;cases e;rfl
 |ref a=>cases r;rfl
 |ty n=>cases r;rfl
section
variable {P:AZ} {H':Hp} {h':Au} {a:AI} {fs fs':List (Str×V)}
def af6(c:HOk P w H h)(e:H a=AA (.ins C dx fs)):∃b,ObjM h a dx C b/\(∀f,A7 (fs.lookup f) (b f))/\PySem.Within b (fs.map (·.1))/\fs.length<=1000/\H dx=AA (.own a):=by
 obtain⟨d,z,g,ob,b,n,r,q⟩:=(c a _ e);exact⟨b,⟨ob,n,g⟩,r,q,z,d⟩
end
structure Cls(K:AM)(C:AI):Prop where
 pg:Gd K C Str.empty=AC
 hd:HM K C=AC
 po:JD K C=AC
 sa:Av K (.ref C) "__setattr__"=AA (AA (.builtin "object.__setattr__"))
def Cls.get{K:AM}(c:Cls K C)(f:Str):Gd K C f=AC:=c.pg
abbrev L8(K:AM)(C:AI)(f:Str):Prop:=Av K (.ref C) f=AA AE
def L8.taker{K}(n:L8 K C f):KD K C f=AA AE:=by
 unfold KD;rw[n];rfl
structure Meth(K:AM)(C:AI)(m:Str)(f:AI):Prop where
 at_:Av K (.ref C) m=AA (AA (.ref f))
 fn:Ic K (.ref f)=AC
 kp:BQ K (.ref f)=AC
section
variable {pins:List (AI×Obj)} {σ:St} {a:AI} {fs:List (Str×V)} {E:AF->AJ->Prop}
def bs3{b}(I:Inv X pins σ H s)(e:H a=AA (.ins C dx fs))(c:Cls X.K C)(n:L8 X.K C f)(l:fs.lookup f=AA v)
  (h:∀u s',Inv X pins σ H s'->i7 v u->Q u s'):AQ (model X.prog X.w) A (JC (.ref a) f b) Q E s:=by
 obtain⟨i,O,r,_,_,_⟩:=af6 I.hok e;obtain⟨u,g,d⟩:=A7.some_of (l▸r f);exact cg1 I.kIn O (c.get f) c.hd n g (bu3 d) (h u _ (I.tok _) d)
def am8{m}{g}{pl}{Q}(I:Inv X pins σ H s)(e:H a=AA (.ins C dx fs))(c:Cls X.K C)(k:Meth X.K C m g)(l:fs.lookup m=AE)
  (h:Q (.ref g,[.ref a]) s):AQ (model X.prog X.w) A (Kv (.ref a) m pl) Q E s:=by
 obtain⟨d,O,r,_,_,_⟩:=af6 I.hok e;have b:=A7.none_of (l▸r m);exact b50 I.kIn O (c.get m) k.at_ k.fn b h
def br3{y:V}{Q:Unit->AJ->Prop}(I:Inv X pins σ H s)(e:H a=AA (.ins C dx fs))(c:Cls X.K C)(n:L8 X.K C f)(t:fs.length<1000)(j:i7 y u)
  (h:∀s',Inv X pins σ (upd H a (.ins C dx (z7 f y fs))) s'->Q () s'):AQ (model X.prog X.w) A (Ka (.ref a) f u) Q E s:=by
 obtain⟨k,O,r,d,_,i⟩:=af6 I.hok e;have l:(fs.map (·.1)).length<=sizeLine:=by rw[AV,GP];lia
 refine b88 I.kIn O c.sa c.po n.taker c.hd d l λh' O' sb=>h _ ?_;have m:∃o,h'.get? dx=AA o:=let⟨o,_,_,p,_⟩:=O'.ns;⟨o,p⟩;refine I.write (x:=a) (e:=dx) (by rw[e];exact Bv) (.inr i) (λb q hb z=>(sb.2 b hb).trans z) m ?_;refine⟨by rw[f9 O.ne];exact i,?_,O.ne,O'.obj,_,O'.ns,λg=>?_,λg hg=>?_⟩
 ·have:=aw7 f y fs;lia
 ·rw[aw9]
  by_cases q:g=f
  ·rw[if_pos q,if_pos q];exact j
  ·rw[if_neg q,if_neg q];exact r g
 ·by_cases q:g=f
  ·rw[q];exact(an7 f y fs).1
  ·refine(an7 f y fs).2 g (d g λz=>hg ?_);show(if g=f then AA u else k g)=AE;rw[if_neg q];exact z
def Inv.made(I:Inv X pins σ H s):Inv X pins σ (upd (upd H s.heap.objs.size (.own (s.heap.objs.size+1))) (s.heap.objs.size+1) (.ins C s.heap.objs.size []))
  {s with heap:=(s.heap.push Cw).push (EN C s.heap.objs.size)}:=by
 have b:(s.heap.push Cw).get? s.heap.objs.size=AA Cw:=Ar s.heap rfl;have d:=by
  have:=Ar (s.heap.push Cw) (o:=EN C s.heap.objs.size) rfl
  rwa [GY]at this
 have c:(s.heap.push Cw).Ns s.heap.objs.size λ_=>AE:=⟨Cw,#[],_,b,rfl,λe he=>absurd he ∎,λ_=>rfl⟩;have e:=I.laid (o:=.own (s.heap.objs.size+1)) (t':=s.toks) (λb u=>AN _) (AX _) ⟨_,b⟩;refine e.laid (λb u=>AN _) (Ky (GY _ _)) ?_;have a:s.heap.objs.size≠s.heap.objs.size+1:=BI (Gu _);refine⟨by rw[f9 a,o0],BU _,a,d,λ_=>AE,(IL c).at λo=>AN _,λ_=>Bv,λy=>absurd rfl⟩
def bc3{prog}{env}{e}{pos}(a:CN e f env (eval e env)=eval e env)
  (h:AQ (model prog w) A (eval e env) (λo s₁=>AQ (model prog w) A (JC o f AC) Q E s₁) E s):AQ (model prog w) A (eval (.Attribute e f pos) env) Q E s:=
 Attribute_any_ h (by rw[arm_eval_Attribute,a])
end
abbrev dc9(K:AM)(ta:TE)(f:Str):TE:=λσ H Q=>ta σ H λx H1=>∃a C dx fs v,x=.ref a/\H1 a=AA (.ins C dx fs)/\Cls K C/\L8 K C f/\fs.lookup f=AA v/\Q v H1
abbrev c78(K:AM)(ta tv:TE)(f:Str):TS:=λD σ H=>tv σ H λy H1=>ta σ H1 λx H2=>∃a C dx fs,x=.ref a/\H2 a=AA (.ins C dx fs)/\Cls K C/\L8 K C f/\fs.length<1000 /\
 D.nx σ (upd H2 a (.ins C dx (z7 f y fs)))
section
variable {o e value:AS} {pos pos' tpos:Pos} {ta tv:TE}
def cq3(i:PE X e ta)(j:CN e f X.env (eval e X.env)=eval e X.env):PE X (.Attribute e f pos) (dc9 X.K ta f):=by
 intro b s d H Q I h;refine bc3 j (thn (i b s d H _ I h) λu s1 z20=>?_);obtain⟨x,p,o,g,a,C,t,r,v,k,m,c,n,l,q⟩:=z20;subst k;obtain rfl:u=Al a:=g;exact bs3 o m c n l λu' s2 I2 ru=>⟨v,p,I2,ru,q⟩
def cv2(k:PE X o ta)(i:PE X value tv)(j:Cp value (AA (.Attribute o f pos')) pos.line X.env=pure AG):PS X (.Assign [.Attribute o f pos'] value pos) (c78 X.K ta tv f):=by
 intro b s d H D I h;refine HN (thn (i b s d H _ I h) λu s1⟨y,H1,I1,ry,q⟩=>thn (k b s1 d H1 _ I1 q) λov s2 z21=>?_) j;obtain⟨x,v,r,e,a,C,u,t,m,p,c,n,l,g⟩:=z21;subst m;obtain rfl:ov=Al a:=e;exact br3 r p c n l ry λs3 I3=>⟨d,_,I3,g⟩
end
section
variable {pins:List (AI×Obj)} {σ:St} {E:AF->AJ->Prop} {c:AF} {b:Bool}
inductive TyOf(K:AM)(H:Hp):V->AF->Prop where
 |non:TyOf K H .non (.type "NoneType")
 |bl (x:Bool):TyOf K H (.bl x) (.type "bool")
 |int (i:Int):TyOf K H (.int i) (.type "int")
 |str (x:Str):TyOf K H (.str x) (.type "str")
 |flt (x:UInt64):TyOf K H (.flt x) (.type "float")
 |lst {a:AI} {xs:List V} (e:H a=AA (.lst xs)):TyOf K H (.ref a) (.type "list")
 |frz {a:AI} {o:Obj} {xs:List V} (e:H a=AA (.frz o (.lst xs))):TyOf K H (.ref a) (.type "list")
 |tup {a:AI} {xs:List V} (e:H a=AA (.tup xs)):TyOf K H (.ref a) (.type "tuple")
 |dK {a:AI} {kvs:List (Key×V)} (e:H a=AA (.dK kvs)):TyOf K H (.ref a) (.type "dict")
 |dT {a:AI} {kvs:List (Ac×V)} (e:H a=AA (.dT kvs)):TyOf K H (.ref a) (.type "dict")
 |ins {a C dx:AI} {fs:List (Str×V)} (e:H a=AA (.ins C dx fs)) (cl:Cls K C) (ha:Av K (.ref C) "__class__"=AA (AA (.builtin "object.__class__")))
   (hn:Er K (.builtin "object.__class__") "__get__"=AA (AA (.builtin "getset_descriptor.__get__"))) (htk:IT K (.builtin "object.__class__")=AA AC)
   (hm:Hd K C (.type "object")=AA AC):TyOf K H (.ref a) (.ref C)
def bv5{x}{t}(I:Inv X pins σ H s)(d:i7 x u)(r:TyOf X.K H x t)(e:Cy X.K t c=AA b)(h:∀tk,Q (.bool b) {s with toks:=tk}):
  AQ (model X.prog X.w) A (call (.builtin "isinstance") [u,c]) Q E s:=by
 cases r with
 |non=>cases(show u=BX from d);exact CP W.kitx_none I.kIn Bv e (λz=>nomatch z) h
 |bl y=>cases(show u=HA y from d);exact CP W.kitx_bool I.kIn Bv e (λz=>nomatch z) h
 |int i=>obtain⟨t,q⟩:=(show ∃t,u=Dy i t from d);cases q;exact CP W.kitx_int I.kIn Bv e (λz=>nomatch z) h
 |str y=>obtain⟨t,q⟩:=(show ∃t,u=Eh y t from d);cases q;exact CP W.kitx_str I.kIn Bv e (λz=>nomatch z) h
 |flt y=>obtain⟨t,q⟩:=(show ∃t,u=IF y t from d);cases q;exact CP W.kitx_float I.kIn Bv e (λz=>nomatch z) h
 |@lst a k f=>
  cases(show u=Al a from d);obtain⟨_,_,n,_,g⟩:=(show l8 X.prog X.w H s.heap a (.lst k) from I.hok a _ f);exact CP W.kitx_list I.kIn ⟨_,g,rfl⟩ e (λz=>nomatch z) h
 |@frz a ob k f=>
  cases(show u=Al a from d);obtain⟨_,_,_,n,_,g⟩:=(show l8 X.prog X.w H s.heap a (.frz ob (.lst k)) from I.hok a _ f);exact CP W.kitx_list I.kIn ⟨_,g,rfl⟩ e (λz=>nomatch z) h
 |@tup a k f=>
  cases(show u=Al a from d);obtain⟨_,_,_,p⟩:=(show l8 X.prog X.w H s.heap a (.tup k) from I.hok a _ f);obtain⟨o,g,l,_⟩:=p;exact CP Lo I.kIn ⟨o,g,l⟩ e (λz=>nomatch z) h
 |@dK a j f=>
  cases(show u=Al a from d);obtain⟨_,_,vs,_,p⟩:=(show l8 X.prog X.w H s.heap a (.dK j) from I.hok a _ f);obtain⟨o,N,P,g,l,_⟩:=p;exact CP W.kitx_dict I.kIn ⟨o,g,l.1⟩ e (λz=>nomatch z) h
 |@dT a j f=>
  cases(show u=Al a from d);obtain⟨_,_,k,_,o,N,P,g,l,_⟩:=(show l8 X.prog X.w H s.heap a (.dT j) from I.hok a _ f);exact CP W.kitx_dict I.kIn ⟨o,g,l.1⟩ e (λz=>nomatch z) h
 |@ins a C U T f cl L F m G=>
  cases(show u=Al a from d);obtain⟨S,O,_⟩:=af6 I.hok f;obtain⟨R,J,_⟩:=O.look;exact CP (W.kitx_own (cl.get _) cl.hd L F m G) I.kIn J e (λz=>nomatch z) h
end
end
section
variable{A:BG}{C f:AI}{us:List AF}{X:Cx}{w:At}{mg:Str->Option AF}{base:Au}{fd:BZ}{ps:List Str}{s:AJ}{H:Hp}{pins:List (AI×Obj)}{σ:St}{Q:VK}{x:Str}{vs:List V}{kindOf:Str->Option GQ}
structure Room(k:Nat)(A:BG):Prop where
 hd:A.handled=AE
 dp:A.depth+3*k+5<IM
 un:A.units+16*k+200<CG
def Room.mono{j k}(r:Room k A)(h:j<=k):Room j A:=⟨r.hd,by have:=r.dp;lia,by have:=r.un;lia⟩
theorem Room.deeper{k}(r:Room (k+1) A)env:Room k (A.deeper env):=
 ⟨r.hd,by have:=r.dp;show A.depth+1+3*k+5<_;lia,by have:=r.un;show A.units+3+16*k+200<_;lia⟩
def bq0{kw}:(A.under (.builtin "type.__call__" ⟨.ref C::us,kw⟩)).depth=A.depth+1:=rfl
def bp8{kw}:(A.under (.builtin "type.__call__" ⟨.ref C::us,kw⟩)).units=A.units+1:=rfl
def Room.make{k:Nat}(r:Room (k+1) A)(C:AI)(us:List AF)(a:List (Str×AF)):Room k (A.under (.builtin "type.__call__" ⟨.ref C::us,a⟩)):=
 ⟨r.hd,by have:=r.dp;rw[bq0];lia,by have:=r.un;rw[bp8];lia⟩
theorem Room.depth{k}(r:Room k A):A.depth<IM:=by have:=r.dp;lia
abbrev V0:TA:=λ_ H Q=>Q [] H
abbrev M2(ta:TE)(tr:TA):TA:=λσ H Q=>ta σ H λx H1=>tr σ H1 λxs H2=>Q (x::xs) H2
section
variable {e:AS} {es:List AS} {te:TE} {t:TA} {pos:Pos}
def W2:PA X [] V0:=λ_ _ _ _ H Q I h=>EQ ⟨[],H,I,.nil,h⟩
def J8(i:PE X e te)(g:PA X es t)(f:Aj (e::es) X.env=(AG,eval e X.env)::Aj es X.env:=by rfl):PA X (e::es) (M2 te t):=by
 intro pos a s b H Q I h;rw[f];show AQ _ _ (spliced ((AG,eval e X.env)::Bp pos (Aj es X.env))) _ _ s;refine DL (thn (i a s b H _ I h) λu s1 z22=>?_);obtain⟨x,k,j,c,d⟩:=z22;exact thn (g pos a s1 b k _ j d) λus s2⟨xs,H2,I2,r2,q2⟩=>⟨x::xs,H2,I2,.cons c r2,q2⟩
abbrev c84(t:TA):TE:=λσ H Q=>t σ H λxs H1=>xs.length<=sizeLine/\∀p,H1 p=AE->Q (.ref p) (upd H1 p (.tup xs))
abbrev c82(t:TA):TE:=λσ H Q=>t σ H λxs H1=>xs.length<=sizeLine/\∀p,H1 p=AE->Q (.ref p) (upd H1 p (.lst xs))
def ct4{x1}(h:PA X es t):PE X (.Tuple es x1 pos) (c84 t):=by
 intro a s b H Q I c;refine wpAny_Tuple_spliced (thn (h pos a s b H _ I c) λus s1⟨xs,H1,I1,r,z,q⟩=>⟨r.length▸z,?_⟩);have d:=I1.hok.fresh (AX _);exact ⟨.ref s1.heap.objs.size,upd H1 s1.heap.objs.size (.tup xs),I1.laid (λb u=>AN _) (AX _) ⟨z,us,r,E7.new _ _⟩,rfl,q _ d⟩
def ch9(h:PA X es t):PE X (.List es pos) (c82 t):=by
 intro a s b H Q I c;refine wpAny_List_spliced (thn (h pos a s b H _ I c) λus s1⟨xs,H1,I1,r,z,q⟩=>⟨r.length▸z,?_⟩);have d:=I1.hok.fresh (AX _);refine⟨.ref s1.heap.objs.size,upd H1 s1.heap.objs.size (.lst xs),I1.laid (λb u=>AN _) (AX _) ?_,rfl,q _ d⟩;exact⟨z,us,0,r,Ar _ rfl⟩
end
@[reducible]noncomputable def Sp:=List V->Hp->VK->XK->Prop
@[reducible]noncomputable def CXT:=List Env->Hp->AJ->XK->AF->AJ->Prop
variable{CX:CXT}
structure Env0(P:AZ)(w:At)(K:AM)(mg:Str->Option AF)(base:Au)(A:BG)(outer:List Env)(s:AJ)(H:Hp):Prop where
 frames:A.frames=AA outer
 mod:Mod K mg base
 bs:∀b o,base.get? b=AA o->s.heap.get? b=AA o/\H b=AE
 bsz:base.objs.size<=s.heap.objs.size
 funs:s.heap.FunFrames base outer
 frf:∀b∈frs outer,H b=AE
 hok:HOk P w H s.heap
 bare:ES s.gens
abbrev CE(outer:List Env)(P:AZ)(w:At)(H:Hp)(s:AJ)(Q:VK)(u:AF)(s':AJ):Prop:=
 ∃v H',s'.os=s.os/\ES s'.gens/\Un (frs outer) [] H H' s.heap s'.heap/\HOk P w H' s'.heap/\i7 v u/\Q v H'
abbrev CR(CX:CXT)(outer:List Env)(P:AZ)(w:At)(H:Hp)(s:AJ)(Q:VK)(E:XK)(r:IK)(s':AJ):Prop:=
 match r with
 |.ok (.ret u)=>CE outer P w H s Q u s'
 |.ok _=>False
 |.error e=>CX outer H s E e s'
structure FnOk(P:AZ)(w:At)(K:AM)(mg:Str->Option AF)(base:Au)(CX:CXT)(k:Nat)(f:AI)(fd:BZ)(ps:List Str)(sp:Sp):Prop where
 len:∀vs H Q E,sp vs H Q E->vs.length=ps.length
 run:∀(A:BG)(outer:List Env)(s:AJ)(H:Hp)(args:Args)(us:List AF)(vs:List V)(Q:VK)(E:XK),Room k A->Env0 P w K mg base A outer s H->HE s fd args (ps.zip us)->g9 vs us->sp vs H Q E ->
  Dz (model P w) A (.call (.ref f) args) (CR CX outer P w H s Q E) s
def FnOk.imp{P}{K}{k}{sp sp'}(F:FnOk P w K mg base CX k f fd ps sp)
  (h:∀vs H Q E,sp' vs H Q E->sp vs H Q E):FnOk P w K mg base CX k f fd ps sp':=
 ⟨λvs H Q E q=>F.len vs H Q E (h _ _ _ _ q),λA outer s H args us vs Q E hr he hb hv hs=>F.run A outer s H args us vs Q E hr he hb hv (h _ _ _ _ hs)⟩
def Env0.make{P}{K}{outer}(e:Env0 P w K mg base A outer s H)(C:AI)(us:List AF)(a:List (Str×AF)):
  Env0 P w K mg base (A.under (.builtin "type.__call__" ⟨.ref C::us,a⟩)) outer s H:=⟨by first|exact e.frames|nofun,e.mod,e.bs,e.bsz,e.funs,e.frf,e.hok,e.bare⟩
section
variable {s':AJ}
def Inv.env0(I:Inv X pins σ H s):Env0 X.prog X.w X.K X.mg X.base X.A X.stack s H:=
 ⟨I.ok.frames,I.ok.mod,I.bs,Ax I.ok.bsz I.sz,I.stack,I.stkFree,I.hok,I.bare⟩
def Inv.after{u}(I:Inv X pins σ H s)(h:CE X.stack X.prog X.w H s Q u s'):EP X pins σ Q u s':=by
 obtain⟨v,i,f,a,e,c,r,q⟩:=h;obtain⟨j,g,d,t,b⟩:=s';obtain rfl:b=s.os:=f;exact⟨v,i,I.call e c a λb z=>absurd z ∎,r,q⟩
end
abbrev c23(sp:Sp)(dvs:List V)(E:XK)(t:TA):TE:=λσ H Q=>t σ H λvs H1=>sp (vs++dvs) H1 Q E
abbrev bj3(C:AI)(sp:Sp)(dvs:List V)(E:XK)(t:TA):TE:=λσ H Q=>t σ H λvs H1=>∀x dx,H1 x=AE->H1 dx=AE->dx≠x ->
 sp (.ref x::(vs++dvs)) (upd (upd H1 dx (.own x)) x (.ins C dx [])) (λv H2=>v=.non/\Q (.ref x) H2) E
abbrev o8(K:AM)(fd:BZ)(ps:List Str)(ds:List AF):Prop:=
 ∀(s:AJ)(us:List AF),K.In s.heap->(us++ds).length=ps.length->HE s fd ⟨us,[]⟩ (ps.zip (us++ds))
def o8.all{K}(h:∀us,us.length=ps.length->EF fd ⟨us,[]⟩=pure (ps.zip us)):o8 K fd ps []:=λs us _ hl=>by
 rw[BM]at hl ⊢;exact .of_eq (h us hl)
abbrev B2(CX:CXT)(X:Cx)(E:XK):Prop:=∀(pins:List (AI×Obj))(σ:St)(H:Hp)(s:AJ)(e:AF)(s':AJ),Inv X pins σ H s->CX X.stack H s E e s'->X.xe e s'
section
variable {k:Nat} {sp:Sp} {dvs:List V} {ds:List AF} {E:XK} {m:Str} {p pos apos:Pos} {e o:AS} {es:List AS} {ta:TE} {t:TA}
def T6(F:FnOk X.prog X.w X.K X.mg X.base CX k f fd ps sp)(i:Room k X.A)(m:o8 X.K fd ps ds)(l:g9 dvs ds)(g:B2 CX X E)
  (I:Inv X pins σ H s) (r:g9 vs us) (h:sp (vs++dvs) H Q E):AQ (model X.prog X.w) X.A (call (.ref f) us) (EP X pins σ Q) X.xe s:=by
 have b:=r.append l;have j:(us++ds).length=ps.length:=(b.length▸F.len _ _ _ _ h)
 refine DZ (De (F.run X.A X.stack s H ⟨us,[]⟩ (us++ds) (vs++dvs) Q E i I.env0 (m s us I.kIn j) b h) λr s' hq=>?_);cases r with
 |error e=>exact g pins σ H s e s' I hq
 |ok n=>
  cases n with
  |ret u=>exact I.after hq
  |next=>exact AU hq
  |brk=>exact AU hq
  |cont=>exact AU hq
def b61(F:FnOk X.prog X.w X.K X.mg X.base CX k f fd ps sp)(i:Room k X.A)(m:Gl X x)(j:X.mg x=AA (.ref f))(l:BQ X.K (.ref f)=AC)(u:o8 X.K fd ps ds)(o:g9 dvs ds)(g:B2 CX X E)
  (v:PA X (e::es) t) (c:(x==("__debug__":Str))=AG:=by decide) (n:Aj (e::es) X.env=(AG,eval e X.env)::Aj es X.env:=by rfl) (b:(Bp pos (Aj es X.env)).any (·.1)=AG:=by rfl) :
  PE X (.Call (.Name x p) (e::es) [] pos) (c23 sp dvs E t):=by
 intro a s d H Q I h;refine BV (E5 I m j ?_ c);refine DD (h₀:=X.base) I.ok.mod.kin l (thn (v pos a s d H _ I h) λus s1⟨vs,H1,I1,r,q⟩=>⟨I1.kIn,?_⟩) n b;exact T6 F i u o g I1 r q
structure Mk(K:AM)(C f:AI):Prop where
 makes:IS K C=AC
 init:Av K (.ref C) "__init__"=AA (AA (.ref f))
 fn:Ic K (.ref f)=AC
 kp:BQ K (.ref C)=AC
def a60(M:Mk X.K C f)(F:FnOk X.prog X.w X.K X.mg X.base CX k f fd ps sp)(o:Room (k+1) X.A)(t:o8 X.K fd ps ds)(q:g9 dvs ds)
  (n:B2 CX X E) (I:Inv X pins σ H s) (r:g9 vs us)
  (h:∀x a,H x=AE->H a=AE->a≠x->sp (.ref x::(vs++dvs)) (upd (upd H a (.own x)) x (.ins C a [])) (λv H2=>v=.non/\Q (.ref x) H2) E) :
  AQ (model X.prog X.w) X.A (call (.ref C) us) (EP X pins σ Q) X.xe s:=by
 have g:=h (s.heap.objs.size+1) s.heap.objs.size (I.hok.fresh (Hr _)) (I.hok.fresh (AX _)) (BI (Gu _));have b:=Inv.made (C:=C) I;have d:g9 (V.ref (s.heap.objs.size+1)::(vs++dvs)) (Al (s.heap.objs.size+1)::(us++ds)):=.cons rfl (r.append q);have p:=by
  have e:=d.length;rw[F.len _ _ _ _ g]at e;exact e.symm
 refine DZ (b27 I.kIn M.makes M.init (beq_iff_eq.mp M.fn) (De (F.run _ X.stack _ _ ⟨Al (s.heap.objs.size+1)::us,[]⟩ (Al (s.heap.objs.size+1)::(us++ds)) _ _ E (o.make C us [])
  (b.env0.make C us []) (t _ (Al (s.heap.objs.size+1)::us) b.kIn p) d g) λr s' hq'=>?_))
 cases r with
 |error e=>exact n pins σ _ _ e s' b hq'
 |ok y=>
  cases y with
  |ret u=>
   obtain⟨v,G,D,j,z,m⟩:=b.after hq';subst z;exact⟨j,⟨V.ref (s.heap.objs.size+1),G,D,rfl,m⟩⟩
  |next=>exact AU hq'
  |brk=>exact AU hq'
  |cont=>exact AU hq'
def ce3(M:Mk X.K C f)(F:FnOk X.prog X.w X.K X.mg X.base CX k f fd ps sp)(i:Room (k+1) X.A)(l:Gl X x)(j:X.mg x=AA (.ref C))(o:o8 X.K fd ps ds)(n:g9 dvs ds)(g:B2 CX X E)
  (u:PA X (e::es) t) (c:(x==("__debug__":Str))=AG:=by decide) (m:Aj (e::es) X.env=(AG,eval e X.env)::Aj es X.env:=by rfl) (b:(Bp pos (Aj es X.env)).any (·.1)=AG:=by rfl) :
  PE X (.Call (.Name x p) (e::es) [] pos) (bj3 C sp dvs E t):=by
 intro a s d H Q I h;refine BV (E5 I l j ?_ c);refine DD (h₀:=X.base) I.ok.mod.kin M.kp (thn (u pos a s d H _ I h) λus s1⟨vs,H1,I1,r,q⟩=>⟨I1.kIn,?_⟩) m b;exact a60 M F i o n g I1 r q
def bx6(M:Mk X.K C f)(F:FnOk X.prog X.w X.K X.mg X.base CX k f fd ps sp)(d:Room (k+1) X.A)(g:Gl X x)(e:X.mg x=AA (.ref C))(j:o8 X.K fd ps ds)(i:g9 dvs ds)(c:B2 CX X E)
  (a:(x==("__debug__":Str))=AG:=by decide):PE X (.Call (.Name x p) [] [] pos) (bj3 C sp dvs E V0):=by
 intro b s l H Q I h;refine BV (E5 I g e ?_ a);exact IN I.kIn M.kp (a60 (us:=[]) M F d j i c I .nil h)
end
structure FnScope(N P:List Str)(sc:BE):Prop where
 kind:sc.kind=.function
 co:sc.isCoroutine=AG
 gen:sc.isGenerator=AG
 nd:N.Nodup
 pre:N.take P.length=P
 par:∀x∈P,sc.names.lookup x=AA .local\/sc.names.lookup x=AA .cell
 nofree:∀y∈sc.names,y.2≠.free
theorem az1:∀{a}{m},(∀v,(x,v)∉a)->Iq kindOf a m x=m x
 |[],_,_=>rfl
 |(n,v)::r,m,h=>by
  unfold Iq;rw[az1 λw hw=>h w (Am _ hw)]
  split
  ·have:x≠n:=by rintro rfl;exact h v Bo
   simp[this]
  ·rfl
theorem a05:∀{a}{m},(∀v,(x,v)∉a)->Ir kindOf a m x=m x
 |[],_,_=>rfl
 |(n,v)::r,m,h=>by
  unfold Ir;rw[a05 λw hw=>h w (Am _ hw)]
  split
  ·rfl
  ·have:x≠n:=by rintro rfl;exact h v Bo
   simp[this]
theorem az3{v}:∀{P:List Str}{vs}{i:Nat}{m},P.Nodup->P[i]?=AA x->vs[i]?=AA v->kindOf x=AA .local ->
  Iq kindOf (P.zip vs) m x=AA v
 |[],_,_,_,_,h,_,_=>by simp at h
 |_::_,[],_,_,_,_,h,_=>by simp at h
 |p::P,w::vs,0,m,c,b,a,d=>by
  simp at b a;subst b;subst a;show Iq kindOf ((p,w)::P.zip vs) m p=_;unfold Iq;rw[az1 λv hv=>(BR.mp c).1 (Gv hv).1,if_pos d];simp
 |p::P,w::vs,i+1,m,c,b,a,d=>by
  unfold Iq;exact az3 (BR.mp c).2 (by simpa using b) (by simpa using a) d
theorem ay7{v}:∀{P:List Str}{vs}{i:Nat}{m},P.Nodup->P[i]?=AA x->vs[i]?=AA v->kindOf x≠AA .local ->
  Ir kindOf (P.zip vs) m x=AA v
 |[],_,_,_,_,h,_,_=>by simp at h
 |_::_,[],_,_,_,_,h,_=>by simp at h
 |p::P,w::vs,0,m,c,b,a,d=>by
  simp at b a;subst b;subst a;show Ir kindOf ((p,w)::P.zip vs) m p=_;unfold Ir;rw[a05 λv hv=>(BR.mp c).1 (Gv hv).1,if_neg d];simp
 |p::P,w::vs,i+1,m,c,b,a,d=>by
  unfold Ir;exact ay7 (BR.mp c).2 (by simpa using b) (by simpa using a) d
abbrev A5(N:List Str)(vs:List V):St:=vs.map AA++Cq (N.length-vs.length) AE
abbrev ai4(CX:CXT)(P:AZ)(w:At)(K:AM)(mg:Str->Option AF)(base:Au)(N:List Str)(qual:Str)(scope:BE)(f:AI)(cd:AF)(A:BG)(outer:List Env)(s:AJ)(H:Hp)(E:XK):Cx where
 prog:=P
 w:=w
 K:=K
 mg:=mg
 base:=base
 A:=A.deeper (HV qual scope s.heap.objs.size f cd)
 N:=N
 s₀:=s
 H₀:=H
 env:=HV qual scope s.heap.objs.size f cd
 outer:=outer
 stack:=HV qual scope s.heap.objs.size f cd::outer
 ex:=[]
 calm:=AC
 fn:=λ_=>AC
 pn:=[]
 xe:=λe s'=>AQ (model P w) (A.deeper (HV qual scope s.heap.objs.size f cd)) (leaving (HV qual scope s.heap.objs.size f cd) e) (λ_ s''=>CX outer H s E e s'') (λe' s''=>CX outer H s E e' s'') s'
def a64{a:BE}{n}(h:a.names.lookup x=AA .cell):∃c,(LA n a.names []).lookup x=AA c:=(have q:=KF a.names n [] (.inl h);BC.mp q)
def bw5{P:AZ}{K:AM}{N:List Str}{g:Str}{scope:BE}{C:AF}{d:List Env}{D:AJ}{E:XK}
  (S:FnScope N ps scope) (L:A.handled=AE) (j:Env0 P w K mg base A d s H) (O:vs.length=ps.length) (r:g9 vs us)
  (x:InCallC s s.heap.objs.size (Iq (HV g scope s.heap.objs.size f C).kindOf (ps.zip us) λ_=>AE) (LA (s.heap.objs.size+1) scope.names []) (Ir (HV g scope s.heap.objs.size f C).kindOf (ps.zip us) λ_=>AE) D) :
  Inv (ai4 CX P w K mg base N g scope f C A d s H E) [] (A5 N vs) H D:=by
 have J:ps.length<=N.length:=by have:=congrArg Gw S.pre;rw[DE]at this;lia
 obtain ⟨B,tk,rfl,G⟩:=x.done;have l:∀ b:AI,b ∉ (ai4 CX P w K mg base N g scope f C A d s H E).ex:=λb z=>absurd (show b ∈ ([]:List AI) from z) ∎;refine ⟨⟨j.mod,S.kind,rfl,rfl,AX _,λy z c B h2=>?_,λy o=>?_,λy c _ h=>?_,λ_=>L,Hs j.frames,.inr ⟨rfl,rfl⟩,λb z=>absurd z (l b),j.bs,j.bsz,λb _ _=>l b,λb z=>absurd z (l b),j.funs,j.frf⟩,
  rfl,j.bare,Un.kept G,⟨_,x.toInCall.ns,λi y v B h2 h3=>?_⟩,λy c h=>⟨_,x.cell y c h⟩,j.hok.fresh (AX _),λy c h=>?_,λp t=>absurd (show p ∈ ([]:List (AI × Obj)) from t) ∎,j.hok.kept G,?_⟩
 ·exact name_of_addr x.apart (PySem.mem_of_lookup B) (PySem.mem_of_lookup h2)
 ·rcases o with o|o
  ·exact a64 o
  ·exact absurd rfl (S.nofree _ (PySem.mem_of_lookup o))
 ·exact HB (x.above y c (PySem.mem_of_lookup h))
 ·have hi:i<vs.length:=by
   unfold A5 at h2
   by_cases hi:i<vs.length
   ·exact hi
   ·rw[An (by simpa using hi)]at h2;rw[Da]at h2
    split at h2<;>cases h2
  have M:vs[i]?=AA v:=by
   unfold A5 at h2;rw[Aa (by simpa using hi),Ak]at h2;cases e:vs[i]? with
   |none=>rw[e]at h2;cases h2
   |some a=>rw[e]at h2;cases h2;rfl
  obtain⟨u,F,I⟩:=r.get M;have t:ps[i]?=AA y:=by
   rw[<-S.pre,Hf ⋯];exact B
  have m:ps.Nodup:=by rw[<-S.pre];exact S.nd.sublist (JE _ _)
  refine⟨u,I,?_⟩
  rcases S.par y (Az t)with k|k
  ·exact .inl ⟨k,az3 m t F k⟩
  ·obtain⟨c,e⟩:=a64 (n:=s.heap.objs.size+1) k;refine .inr ⟨.inl k,c,e,?_⟩;have q:=x.cell y c e;rw[ay7 m t F (by show scope.names.lookup y≠_;rw[k];decide)]at q;exact q
 ·exact .inl (j.hok.fresh (HB (x.above y c (PySem.mem_of_lookup h))))
 ·unfold A5;show _=N.length;rw[Ap,AV,FG];lia
end
section
variable {X:Cx} {x:Str} {p pos:Pos} {e:AS} {es:List AS} {t:TA} {id T:String} {r:List V->Hp->VK->Prop}
abbrev tCB(r:List V->Hp->VK->Prop)(t:TA):TE:=λσ H Q=>t σ H λvs H1=>r vs H1 Q
def af3(l:G6 X (.builtin id) r)(j:Gl X x)(i:X.mg x=AE)(f:BF x=AA (.builtin id))(m:PA X (e::es) t)(g:x≠"__name__":=by decide)(c:(x==("__debug__":Str))=AG:=by decide)
  (k:Aj (e::es) X.env=(AG,eval e X.env)::Aj es X.env:=by rfl) (b:(Bp pos (Aj es X.env)).any (·.1)=AG:=by rfl):PE X (.Call (.Name x p) (e::es) [] pos) (tCB r t):=by
 intro a s d H Q I h;refine BV (L7 I j i f ?_ g c);exact LZ (thn (m pos a s d H _ I h) λus s1⟨vs,H1,I1,r1,q1⟩=>l a s1 d H1 vs us Q I1 r1 q1) k b
def bs5(l:G6 X (.type T) r)(j:Gl X x)(i:X.mg x=AE)(f:BF x=AA (.type T))(m:PA X (e::es) t)(g:x≠"__name__":=by decide)(c:(x==("__debug__":Str))=AG:=by decide)
  (k:Aj (e::es) X.env=(AG,eval e X.env)::Aj es X.env:=by rfl) (b:(Bp pos (Aj es X.env)).any (·.1)=AG:=by rfl):PE X (.Call (.Name x p) (e::es) [] pos) (tCB r t):=by
 intro a s d H Q I h;refine BV (L7 I j i f ?_ g c);exact BH (thn (m pos a s d H _ I h) λus s1⟨vs,H1,I1,r1,q1⟩=>l a s1 d H1 vs us Q I1 r1 q1) k b
end
end L2
namespace HT
open PySem PyProof.Rows
section
open PySem.SeqAt
open PySem.AutoSeq1 (wpAny_loadPart')
open PySem.MeetsSeq PySem.MeetsSeq2 PySem.MeetsSeq3
end
section
variable {prog:AZ} {w:At} {A:BG} {E:AF->AJ->Prop} {s:AJ}
def cat_tup{t b}{vs ws}{Q}(q:IG s.heap t vs.toArray)(v:IG s.heap b ws.toArray)(m:vs≠[])
  (y:ws=[]->Q (.ref t) s) (x:ws≠[]->Q (.ref s.heap.objs.size) {s with heap:=s.heap.push {cls:=.type "tuple",data:=.seq (vs++ws).toArray}})
  (hsz:vs.length+ws.length<=sizeLine):AQ (model prog w) A (ED .Add (.ref t) (.ref b)) Q E s:=by
 obtain⟨⟨z,dd,o,k⟩,f,u,n,r⟩:=id q;obtain⟨⟨p,d,j,c⟩,a,i,l,h⟩:=id v;subst u r i h;have e:vs.toArray++ws.toArray=(vs++ws).toArray:=by simp
 by_cases g:ws=[]
 ·exact JF ⟨_,f,rfl⟩ ⟨_,a,rfl⟩ HW Ie PySem.F.slot_tuple_add PySem.F.entry_tuple_add (PySem.F.args_tuple_add_2 _ _)
   (tuple_addW1 t b vs.toArray ws.toArray n l dd d k c (by simpa using m) (by simp[g])) ⟨f,a,y g⟩
 ·refine JF ⟨_,f,rfl⟩ ⟨_,a,rfl⟩ HW Ie PySem.F.slot_tuple_add PySem.F.entry_tuple_add (PySem.F.args_tuple_add_2 _ _)
   (tuple_addW2 t b vs.toArray ws.toArray n l dd d k c (by simpa using m) (by simp_all) (by exact hsz)) ⟨f,a,?_⟩
  rw[e];exact x g
abbrev sIx(n d:Nat):Option Int->Nat
 |none=>d
 |some v=>if v<0 then(v+(n:Int)).toNat else min v.toNat n
def bg2 n d(b:d<=n)o:sIx n d o<=n:=by
 cases o with
 |none=>exact b
 |some v=>
  show(if v<0 then(v+n).toNat else min v.toNat n)<=n
  by_cases a:v<0
  ·rw[if_pos a];lia
  ·rw[if_neg a];exact FY _ _
def a92(v:Int)(n d:Nat):(if v<0 then max (v+n) 0 else min v n)=sIx n d (AA v):=by
 show(if v<0 then max (v+n) 0 else min v n)=if v<0 then(v+n).toNat else min v.toNat n
 ·grind
def bs1 lo hi(n:Nat):Dh lo hi 1 n=((sIx n 0 lo:Int),(sIx n n hi:Int)):=by
 refine Prod.ext ?_ ?_
 ·cases lo with
  |none=>rfl
  |some v=>exact a92 v n 0
 ·cases hi with
  |none=>rfl
  |some v=>exact a92 v n n
def bq7(i j:Nat):CY i j 1=j-i:=by
 unfold CY;simp
 split<;>lia
def ay1{v}{o}{Q}(p:GR v o)(h:Q o s):AQ (model prog w) A (LB v) Q E s:=by
 cases p with
 |none=>exact Lp h
 |int i t=>exact slicePart_int h
def av8{sl}{vl vu}{lo hi}{n:Nat}{Q}(g:s.heap.IsSliceOf sl vl vu .none)(f:GR vl lo)(e:GR vu hi)
  (h:Q ((sIx n 0 lo),1,sIx n n hi-sIx n 0 lo) s):AQ (model prog w) A (Fx (.ref sl) (pure n)) Q E s:=by
 obtain⟨k,b,i,c⟩:=id g;refine AD (AD (Ay b c (x:=vl) rfl (AD (Ay b c (x:=vu) rfl (AD (Ay b c rfl (AL ?_)))))));refine AD (Lp ?_);refine AD (ay1 f (AD (ay1 e (AD (AL ?_)))));show AQ _ _ (match Dh lo hi 1 n with|(lo,hi)=>pure (lo,(1:Int),CY lo hi 1)) _ _ s;rw[bs1 lo hi n];show AQ _ _ (pure ((sIx n 0 lo:Int),1,CY (sIx n 0 lo) (sIx n n hi) 1)) _ _ s;rw[bq7];exact AL h
def b49(a:Array AF)(i k:Nat):((DN k).filterMap λ(m:Nat)=>a[((i:Int)+m*1).toNat]?).toArray=((a.toList.drop i).take k).toArray:=by
 have e:(λ(m:Nat)=>a[(i+(m:Int)*1).toNat]?)=λm=>a[i+m]?:=by
  funext m
  have:((i:Int)+m*1).toNat=i+m:=by lia
  rw[this]
 rw[e];have:=pick_run a i k;rw[List.filterMap_map]at this;have b:((λx=>a[x]?)∘λx=>i+x)=λm=>a[i+m]?:=rfl;rw[b]at this;rw[this]
def getItem_tuple_cut{t sl}{items}{vl vu}{lo hi}{Q}(b:IG s.heap t items)(g:s.heap.IsSliceOf sl vl vu .none)(j:GR vl lo)(i:GR vu hi)
  (l:¬(sIx items.size 0 lo=0/\sIx items.size items.size hi=items.size))
  (h:Q (.ref s.heap.objs.size) {s with heap:=s.heap.push {cls:=.type "tuple",data:=.seq ((items.toList.drop (sIx items.size 0 lo)).take (sIx items.size items.size hi-sIx items.size 0 lo)).toArray}})
  (hsz:items.size<=sizeLine):AQ (model prog w) A (EA (.ref t) (.ref sl)) Q E s:=by
 have a:=by
  show((items.toList.drop (sIx items.size 0 lo)).take (sIx items.size items.size hi-sIx items.size 0 lo)).toArray.size<=sizeLine;rw[Ad,DE,EG,FX];lia
 obtain⟨k,c,e,m⟩:=id g;have f:s.TypeIs (.ref sl) "slice":=⟨k,c,e⟩;unfold EA
 try with_reducible refine BO ?_
 refine AD (HG b.typeIs ∅ ?_);refine AD (BN b.typeIs BS
  (BL BS b.typeIs Jr ?_ (KG _ _)))
 show AQ _ _ (CO (.ref t)>>=_) _ _ s;refine AD (tupleItemsOf_ b ?_);refine AD (ET f ?_);refine AD (av8 g j i ?_);have d:¬((((sIx items.size 0 lo):Int)==0&&(1:Int)==1&&(sIx items.size items.size hi-sIx items.size 0 lo)==items.size)=AC):=by
  intro q;exact l ⟨⋯,⋯⟩
 show AQ _ _ (if((sIx items.size 0 lo:Int)==0&&1==1&&(sIx items.size items.size hi-sIx items.size 0 lo)==items.size)=AC then _ else _) _ _ s;rw[if_neg d,b49]
 first
  |exact AD (Ba (AL ⟨_,rfl,AL h⟩) a)
  |simp_all
  |nofun
  |grind
end
end HT
namespace L2
open PySem PySem.Spec PyProof.Rows
section
@[reducible]noncomputable def TO:=St->Hp->(Option Int->Hp->Prop)->Prop
abbrev PO(X:Cx)(e:Option AS)(t:TO):Prop:=
 ∀(pins:List (AI×Obj))(s:AJ)(σ:St)(H:Hp)(Q:Option Int->Hp->Prop),Inv X pins σ H s->t σ H Q ->
  AQ (model X.prog X.w) X.A (evalPart e X.env) (λu s'=>∃o H',Inv X pins σ H' s'/\GR u o/\Q o H') X.xe s
abbrev cf7:TO:=λ_ H Q=>Q AE H
abbrev c51(t:TE):TO:=λσ H Q=>t σ H λx H1=>∃i,x=.int i/\Q (AA i) H1
def bp6{ns}:∀{us},g9 (ns.map V.int) us->HH us ns:=by
 induction ns with
 |nil=>intro us r;cases r;exact .nil
 |cons n ns f=>
  intro us r;cases r with
  |cons c b=>
   obtain⟨t,e⟩:=c;subst e;exact .cons n t (f b)
section
variable {X:Cx} {e:AS} {te:TE} {lo hi:Option AS} {tl th:TO} {pos p2:Pos}
def b97:PO X AE cf7:=by
 intro a s b H Q I h;exact AL ⟨AE,H,I,.none,h⟩
def cf1(h:PE X e te):PO X (AA e) (c51 te):=by
 intro a s b H Q I f;refine thn (h a s b H _ I f) λu s1 z23=>?_;obtain⟨x,j,g,c,d⟩:=z23;obtain⟨i,rfl,q⟩:=d;obtain⟨t,rfl⟩:=c;exact⟨AA i,j,g,.int i t,q⟩
abbrev SlR(X:Cx)(r:V->Option Int->Option Int->Hp->VK->Prop):Prop:=
 ∀(pins:List (AI×Obj))(s:AJ)(σ:St)(H:Hp)(x:V)(v vl vu:AF)(lo hi:Option Int)(sl:AI)(Q:VK),Inv X pins σ H s->i7 x v->s.heap.IsSliceOf sl vl vu .none->GR vl lo->GR vu hi->r x lo hi H Q ->
  ∃T id,Du (.type T) "__getitem__"=pure (AA (.builtin id))/\s.TypeIs v T/\AQ (model X.prog X.w) X.A (EA v (.ref sl)) (EP X pins σ Q) X.xe s
def SlR.or{r r'}(h:SlR X r)(h':SlR X r'):SlR X λx lo hi H Q=>r x lo hi H Q\/r' x lo hi H Q:=by
 intro a s b H x v d c lo hi e Q I f j i g q
 rcases q with q|q
 ·exact h a s b H x v d c lo hi e Q I f j i g q
 ·exact h' a s b H x v d c lo hi e Q I f j i g q
abbrev tSl(r:V->Option Int->Option Int->Hp->VK->Prop)(te:TE)(tl th:TO):TE:=λσ H Q=>te σ H λx H1=>tl σ H1 λl H2=>th σ H2 λu H3=>r x l u H3 Q
def a87{r}(m:SlR X r)(p:PE X e te)(n:PO X lo tl)(j:PO X hi th):PE X (.Subscript e (.Slice lo hi AE p2) pos) (tSl r te tl th):=by
 intro a s b H Q I h;refine KH (thn (p a s b H _ I h) λv s1 z24=>?_);obtain⟨x,z,y,d,g⟩:=z24;refine wpAny_Slice (thn (n a s1 b z _ y g) λvl s2⟨l,H2,I2,pl,q2⟩=>thn (j a s2 b H2 _ I2 q2) λvu s3 z25=>?_);obtain⟨u,c,w,i,f⟩:=z25;refine AL ?_;have t:Inv X a b c {s3 with heap:=s3.heap.push {cls:=.type "slice",data:=.fields #[vl,vu,.none]}}:=w.kept λb ob=>AN _;obtain⟨T,A,q,k,o⟩:=m a {s3 with heap:=s3.heap.push {cls:=.type "slice",data:=.fields #[vl,vu,.none]}} b c x v vl vu l u s3.heap.objs.size Q t d (Kb ..) pl i f;exact tail_any k q o rfl
abbrev Q6(xs:List V)(lo hi:Option Int):List V:=(xs.drop (HT.sIx xs.length 0 lo)).take (HT.sIx xs.length xs.length hi-HT.sIx xs.length 0 lo)
def ax1(xs)lo hi:(Q6 xs lo hi).length<=xs.length:=by
 unfold Q6;rw[DE,EG];lia
abbrev c93(K:AM):V->Option Int->Option Int->Hp->VK->Prop:=λx lo hi H Q=>∃a xs,x=.ref a/\SqT K H a xs /\
 ¬(HT.sIx xs.length 0 lo=0/\HT.sIx xs.length xs.length hi=xs.length)/\∀p,H p=AE->Q (.ref p) (upd H p (.tup (Q6 xs lo hi)))
def bg0:SlR X (c93 X.K):=by
 intro e s o H x v t p lo hi u Q I i n k j h;obtain⟨a,c,rfl,l,m,q⟩:=h;cases i;obtain⟨d,r,g,f⟩:=I.tuple l;have b:d.toArray.size=c.length:=(r.length.symm)
 refine⟨"tuple",_,BS.lookup,g.typeIs,?_⟩;refine HT.getItem_tuple_cut g n k j (b▸m) ?_ (b▸f);rw[b];refine⟨.ref s.heap.objs.size,_,I.laid (λb ob=>AN _) (AX _) ?_,rfl,q _ (I.hok.fresh (AX _))⟩;exact⟨Ax (ax1 c lo hi) f,_,(r.drop (HT.sIx c.length 0 lo)).take (HT.sIx c.length c.length hi-HT.sIx c.length 0 lo),E7.new _ _⟩
abbrev cy6(K:AM):R2:=λx y H Q=>∃a b xs ys,x=.ref a/\y=.ref b/\SqT K H a xs/\SqT K H b ys/\xs≠[]/\xs.length+ys.length<=sizeLine /\
 (ys=[]->Q (.ref a) H)/\(ys≠[]->∀p,H p=AE->Q (.ref p) (upd H p (.tup (xs++ys))))
def g9.nil_iff{xs}{us}(r:g9 xs us):us=[]↔xs=[]:=by
 cases r with
 |nil=>simp
 |cons _ _=>simp
def cg3:OpR X (ED .Add) (cy6 X.K):=by
 intro e s p H x y v u Q I i g h;obtain⟨a,b,r,q,rfl,rfl,o,n,m,t,k,j⟩:=h;cases i;cases g;obtain⟨l,d,p1,_⟩:=I.tuple o;obtain⟨f,c,p2,_⟩:=I.tuple n;refine HT.cat_tup p1 p2 (λz=>m (d.nil_iff.mp z)) (λz=>⟨.ref a,H,I,rfl,k (c.nil_iff.mp z)⟩) (λz=>?_) (by rwa[<-d.length,<-c.length]);refine⟨.ref s.heap.objs.size,_,I.laid (λb ob=>AN _) (AX _) ?_,rfl,j (λw=>z (c.nil_iff.mpr w)) _ (I.hok.fresh (AX _))⟩;exact⟨by simp_all,_,d.append c,E7.new _ _⟩
end
variable{pins:List (AI×Obj)}{σ:St}{H:Hp}{s:AJ}
abbrev ixN(n:Nat)(i:Int):Option Nat:=if 0<=i then(if i<n then AA i.toNat else AE)else if -(n:Int)<=i then AA (i+n).toNat else AE
abbrev atI{α:Type}(xs:List α)(i:Int):Option α:=(ixN xs.length i).bind λj=>xs[j]?
def ap7{n}{i}{j}(h:ixN n i=AA j):Iu i n=AA j/\j<n/\-(n:Int)<=i/\i<n:=by
 unfold ixN at h
 by_cases b:0<=i
 ·rw[if_pos b]at h
  by_cases a:i<n
  ·rw[if_pos a]at h;have e:i.toNat=j:=BA h;exact⟨by rw[JZ b a,e],⋯,⋯,a⟩
  ·simp_all
 ·rw[if_neg b]at h
  by_cases a:-(n:Int)<=i
  ·rw[if_pos a]at h;have e:(i+n).toNat=j:=BA h;exact⟨by rw[JG ⋯ a,e],⋯,a,⋯⟩
  ·simp_all
def a93{α}{xs}{i}{v:α}(h:atI xs i=AA v):∃j,Iu i xs.length=AA j/\xs[j]?=AA v/\j<xs.length/\-xs.length<=i/\i<xs.length:=by
 unfold atI at h;cases e:ixN xs.length i with
 |none=>simp_all
 |some j=>
  rw[e]at h;obtain⟨d,c,b,a⟩:=ap7 e;exact⟨j,d,h,c,b,a⟩
abbrev a99(b:AS):Prop:=∀o i,subscripted b AG o i=operate [o,i] (EA o i)
abbrev IxR(X:Cx)(r:R2):Prop:=
 ∀(value slice:AS)(pins:List (AI×Obj))(s:AJ)(σ:St)(H:Hp)(x y:V)(v u:AF)(Q:VK),Inv X pins σ H s->i7 x v->i7 y u->r x y H Q ->
  subscripted slice AG v u=operate [v,u] (EA v u)->AQ (model X.prog X.w) X.A (Ig value slice v u) (EP X pins σ Q) X.xe s
abbrev MtR(X:Cx)(id:String)(r:V->List V->Hp->VK->Prop):Prop:=
 ∀(pins:List (AI×Obj))(s:AJ)(σ:St)(H:Hp)(x:V)(xs:List V)(v:AF)(us:List AF)(Q:VK),Inv X pins σ H s->i7 x v->g9 xs us->r x xs H Q ->
  AQ (model X.prog X.w) X.A (call (.builtin id) (v::us)) (EP X pins σ Q) X.xe s
section
variable {X:Cx} {a b:AS} {ta tb:TE} {pos:Pos}
def IxR.or{r r'}(h:IxR X r)(h':IxR X r'):IxR X λx y H Q=>r x y H Q\/r' x y H Q:=by
 intro a b c s d H x y v u Q I f e q g
 rcases q with q|q
 ·exact h a b c s d H x y v u Q I f e q g
 ·exact h' a b c s d H x y v u Q I f e q g
def c68{r}(d:IxR X r)(f:PE X a ta)(e:PE X b tb)(c:a99 b):PE X (.Subscript a b pos) (tOp r ta tb):=λpins s σ H Q I h=>KH (au1 f e I h λv u s2 x y H2 I2 rx ry q=>d a b pins s2 σ H2 x y v u Q I2 rx ry q (c _ _))
abbrev c81(K:AM):R2:=λx y H Q=>∃p xs i v,x=.ref p/\y=.int i/\SqL K H p xs/\atI xs i=AA v/\Q v H
abbrev dd0(K:AM):R2:=λx y H Q=>∃p xs i v,x=.ref p/\y=.int i/\SqT K H p xs/\atI xs i=AA v/\Q v H
def cc3:IxR X (c81 X.K):=by
 intro c d a s l H x y v u Q I B A h m;obtain⟨p,L,i,z,rfl,rfl,C,E,q⟩:=h;cases B;obtain⟨t,rfl⟩:=A;obtain⟨g,r,f,M⟩:=I.list C;obtain⟨j,b,J,O,G,F⟩:=a93 E;obtain⟨w,o,e⟩:=r.get J;have D:=r.length;have N:=ag2;have fin:EP X a l Q w s:=⟨z,H,I,e,q⟩
 by_cases n:0<=i
 ·have k:i.toNat=j:=by
   rw[JZ n F]at b;exact BA b
  exact item_listR f.isList n ⋯ (by rw[k];simpa using o) fin m
 ·have k:(i+(g.toArray.size:Int)).toNat=j:=by
   rw[JG ⋯ G]at b;rw[Ad,<-D];exact BA b
  exact JH (x:=w) f.isList.typeIs Ke.lookup
   (wpAny_getItem_list_neg (Q:=λr s'=>r=w/\EP X a l Q r s') f.isList ⋯ (by rw[Ad]<;>lia) ⋯ (by rw[k];simpa using o) ⟨rfl,fin⟩) m
def cj8:IxR X (dd0 X.K):=by
 intro b c a s e H x y v u Q I k g h m;obtain⟨p,E,i,z,rfl,rfl,n,A,q⟩:=h;cases k;obtain⟨t,rfl⟩:=g;obtain⟨l,r,f,F⟩:=I.tuple n;obtain⟨j,C,B,M,L,J⟩:=a93 A;obtain⟨w,D,d⟩:=r.get B;have o:=r.length;have G:=ag2;have fin:EP X a e Q w s:=⟨z,H,I,d,q⟩;exact JH (x:=w) f.typeIs Ej.lookup
  (getItem_tuple (j:=j) (Q:=λr s'=>r=w/\EP X a e Q r s') f ⋯ ⋯ (by rw[Ad,<-o];exact C) (by simpa using D) ⟨rfl,fin⟩) m
def bp7(a:List AF)n j(u):GS (·.setIfInBounds j u) {cls:=.type "list",data:=.seq a.toArray n}={cls:=.type "list",data:=.seq (a.set j u).toArray n}:=by
 simp[GS]
theorem Inv.lst{p}{xs}(I:Inv X pins σ H s)(h:H p=AA (.lst xs)):
  ∃(a:List AF)(n:Nat),g9 xs a/\s.heap.get? p=AA {cls:=.type "list",data:=.seq a.toArray n}/\xs.length<=sizeLine:=by
 obtain⟨z,a,n,r,e⟩:=I.hok p _ h;exact⟨a,n,r,e,z⟩
def Inv.lstUpd{p}{xs ys}{a its':List AF}{n n'}{f}(I:Inv X pins σ H s)(h:H p=AA (.lst xs))
  (d:s.heap.get? p=AA {cls:=.type "list",data:=.seq a.toArray n}) (b:f {cls:=.type "list",data:=.seq a.toArray n}={cls:=.type "list",data:=.seq its'.toArray n'}) (r:g9 ys its') (c:ys.length<=sizeLine) t :
  Inv X pins σ (upd H p (.lst ys)) {s with heap:=s.heap.update p f,toks:=t}:=by
 have e:(s.heap.update p f).get? p=AA {cls:=.type "list",data:=.seq its'.toArray n'}:=by
  rw[By f d (by rw[b]<;>rfl),b]
 exact I.write (by rw[h];trivial) (.inl rfl) (λb u hb=>(CH _ _ (Ao hb)).trans) ⟨_,e⟩ ⟨c,its',n',r,e⟩
abbrev c05:V->V->V->Hp->(Hp->Prop)->Prop:=λo i v H Q=>∃p xs k j,o=.ref p/\i=.int k/\H p=AA (.lst xs)/\ixN xs.length k=AA j/\Q (upd H p (.lst (xs.set j v)))
def bx4:bm0 X c05:=by
 intro a s y H o i v F G u Q I B C A h;obtain⟨p,z,k,j,rfl,rfl,g,E,q⟩:=h;cases B;obtain⟨t,rfl⟩:=C;obtain⟨b,n,r,d,D⟩:=I.lst g;obtain⟨c,K,m,l⟩:=ap7 E;have e:=r.length;have J:=ag2;have x:Inv X a y (upd H p (.lst (z.set j v))) {s with heap:=s.heap.update p (GS (·.setIfInBounds j u))}:=
  I.lstUpd g d (bp7 b n j u) (r.set A j) (by rw[Ja];exact D) s.toks
 by_cases w:0<=k
 ·have f:k.toNat=j:=by
   rw[JZ w l]at c;exact BA c
  exact W.ki_setAt d w ⋯ (by rw[Ad,<-e];exact l) (by rw[f];exact⟨_,x,q⟩)
 ·have f:(k+(b.toArray.size:Int)).toNat=j:=by
   rw[JG ⋯ m]at c;rw[Ad,<-e];exact BA c
  exact W.ki_setBack d ⋯ (by rw[Ad,<-e];exact m) ⋯ (by rw[f];exact⟨_,x,q⟩)
def bn8(lo hi:Option Int)(n:Nat):(EH lo hi AE n).1=((HT.sIx n 0 lo:Nat):Int)/\(EH lo hi AE n).2.1=((HT.sIx n n hi:Nat):Int)/\(EH lo hi AE n).2.2=1:=by
 refine⟨?_,?_,rfl⟩
 ·cases lo with
  |none=>rfl
  |some i=>
   simp only[EH,HT.sIx,Iv,show(1:Int)>0 by decide,if_true]
   by_cases h:i<0
   ·simp only[h,if_true]<;>lia
   ·simp only[h,if_false]<;>lia
 ·cases hi with
  |none=>rfl
  |some i=>
   simp only[EH,HT.sIx,Iv,show(1:Int)>0 by decide,if_true]
   by_cases h:i<0
   ·simp only[h,if_true]<;>lia
   ·simp only[h,if_false]<;>lia
def bn0(a:List AF)lo hi:slicePick a.toArray lo hi AE=((a.drop (HT.sIx a.length 0 lo)).take (HT.sIx a.length a.length hi-HT.sIx a.length 0 lo)).toArray:=by
 obtain⟨d,c,b⟩:=bn8 lo hi a.toArray.size;unfold slicePick;rw[d,c,b];simp only[sliceRange_one,pick_run,Ad]
abbrev dc3(K:AM):V->Option Int->Option Int->Hp->VK->Prop:=λx lo hi H Q=>∃a xs,x=.ref a/\SqL K H a xs/\∀p,H p=AE->Q (.ref p) (upd H p (.lst (Q6 xs lo hi)))
def ce5:SlR X (dc3 X.K):=by
 intro d s n H x v p o lo hi t Q I f m i g h;obtain⟨a,b,rfl,l,q⟩:=h;cases f;obtain⟨j,r,e,k⟩:=I.list l;have c:=r.length;refine⟨"list",_,Ke.lookup,e.isList.typeIs,?_⟩;refine wpAny_getItem_list_slice e.isList m i g .none ∎ ?_ (by rw[Ad]<;>lia);rw[bn0,<-c];refine⟨.ref s.heap.objs.size,_,I.laid (λb ob=>AN _) (AX _) ?_,rfl,q _ (I.hok.fresh (AX _))⟩;exact⟨Ax (ax1 b lo hi) k,_,0,(r.drop (HT.sIx b.length 0 lo)).take (HT.sIx b.length b.length hi-HT.sIx b.length 0 lo),Ar _ rfl⟩
def bo2:G6 X (.builtin "len") λxs H Q=>∃p b,xs=[.ref p]/\(SqL X.K H p b\/SqT X.K H p b)/\Q (.int b.length) H:=by
 intro g s l H xs us Q I r h;obtain⟨p,b,rfl,c,q⟩:=h;obtain⟨u,rfl,j⟩:=W6 r;cases j;have m:=ag2
 rcases c with c|c
 ·obtain⟨f,d,e,k⟩:=I.list c;have a:=d.length;exact Calls.call_len_list e.isList (by grind) ⟨.int b.length,H,I.tok _,⟨s.toks+1,by rw[Ad,a]⟩,q⟩
 ·obtain⟨f,d,e,k⟩:=I.tuple c;have a:=d.length;exact len_tuple e (by grind) ⟨.int b.length,H,I.tok _,⟨s.toks+1,by rw[Ad,a]⟩,q⟩
def bn7:G6 X (.type "list") λxs H Q=>∃p c,xs=[.ref p]/\(SqL X.K H p c\/SqT X.K H p c)/\∀l,H l=AE->Q (.ref l) (upd H l (.lst c)):=by
 intro g s z H xs us Q I r h;obtain⟨p,c,rfl,j,q⟩:=h;obtain⟨u,rfl,B⟩:=W6 r;cases B;have fin:∀its,g9 c its->c.length<=sizeLine->∀(h')f,(∀b y,s.heap.get? b=AA y->h'.get? b=AA y) ->
   h'.get? s.heap.objs.size=AA {cls:=.type "list",dict:=AE,data:=.seq its.toArray f,slots:=#[]}->EP X g z Q (.ref s.heap.objs.size) {s with heap:=h'}:=λits d i h' f kp e=>
  ⟨.ref s.heap.objs.size,_,I.laid kp (AX _) (show l8 X.prog X.w _ h' _ (.lst c) from⟨i,its,f,d,e⟩),rfl,q _ (I.hok.fresh (AX _))⟩
 rcases j with j|j
 ·obtain⟨its,d,m,i⟩:=I.list j;have k:=d.length;obtain⟨o,t,x,n,v⟩:=m.isList;exact call_list_seq p (.inl rfl) t x v (λh' f kp=>fin its d i h' f kp) (by simp_all)
 ·obtain⟨its,d,m,i⟩:=I.tuple j;have k:=d.length;obtain⟨o,t,x,n,v⟩:=m;exact call_list_seq p (.inr rfl) t x v (λh' f kp=>fin its d i h' f kp) (by simp_all)
def bn2:G6 X (.type "tuple") λxs H Q=>∃p a,xs=[.ref p]/\((SqL X.K H p a/\∀l,H l=AE->Q (.ref l) (upd H l (.tup a)))\/(SqT X.K H p a/\Q (.ref p) H)):=by
 intro f s t H xs us Q I r h;obtain⟨p,a,rfl,h⟩:=h;obtain⟨u,rfl,m⟩:=W6 r;cases m
 rcases h with⟨e,q⟩|⟨e,q⟩
 ·obtain⟨b,c,d,g⟩:=I.list e;have i:=c.length;refine call_tuple_list d.isList (λh' kp=>?_) (by simp_all);have j:=I.kept (t':=s.toks) kp;have n:=
   j.laid (t':=s.toks) (λb o=>AN _) (AX _) (show l8 X.prog X.w _ _ _ (.tup a) from⟨g,b,c,E7.new _ _⟩)
  exact⟨.ref h'.objs.size,_,n,rfl,q _ (j.hok.fresh (AX _))⟩
 ·obtain⟨b,c,d,g⟩:=I.tuple e;exact call_tuple_same d ⟨.ref p,H,I,rfl,q⟩
abbrev tyV(K:AM)(T:String)(x:V)(H:Hp):Prop:=match x with
 |.str _=>T="str"
 |.int _=>T="int"
 |.ref p=>(T="list"/\∃xs,SqL K H p xs)\/(T="tuple"/\∃o,K.lookup p=AA o/\o.cls=.type "tuple"/\o.dict=AE)\/
   (T="dict"/\((∃kvs,H p=AA (.dK kvs))\/∃kvs,H p=AA (.dT kvs)))\/(T="set"/\∃S n,H p=AA (.set S n))
 |_=>False
def be4{T}{x}{v}(I:Inv X pins σ H s)(r:i7 x v)(f:tyV X.K T x H):
  s.TypeIs v T/\∀a,v=.ref a->∃ob,s.heap.get? a=AA ob/\ob.dict=AE:=by
 cases x with
 |str z=>
  obtain⟨t,rfl⟩:=r;cases(f);exact⟨typeIs_str s z t,λ_ e=>nomatch e⟩
 |int i=>
  obtain⟨t,rfl⟩:=r;cases(f);exact⟨typeIs_int s i t,λ_ e=>nomatch e⟩
 |ref p=>
  cases r
  rcases f with⟨rfl,y,u⟩|⟨rfl,o,b,w,h⟩|⟨rfl,b⟩|⟨rfl,S,n,b⟩
  ·obtain⟨m,_,j,_⟩:=I.list u;refine⟨j.isList.typeIs,λa e=>?_⟩;cases e;obtain⟨o,n,e,c,h,_⟩:=j;exact⟨o,e,h⟩
  ·refine⟨⟨o,I.kIn p o b,w⟩,λa e=>?_⟩;cases e;exact⟨o,I.kIn _ o b,h⟩
  ·have z:∃o,s.heap.get? p=AA o/\o.ExactDict:=by
    rcases b with⟨g,b⟩|⟨g,b⟩
    ·obtain⟨_,_,_,_,o,_,_,e,d,_⟩:=I.hok p _ b;exact⟨o,e,d⟩
    ·obtain⟨_,_,_,_,o,_,_,e,d,_⟩:=I.hok p _ b;exact⟨o,e,d⟩
   obtain⟨o,e,d⟩:=z;refine⟨⟨o,e,d.1⟩,λa e2=>?_⟩;cases e2;exact⟨o,e,d.2.1⟩
  ·obtain⟨o,_,_,_,e,d,_⟩:=I.hok p _ b;refine⟨⟨o,e,d.1⟩,λa e2=>?_⟩;cases e2;exact⟨o,e,d.2.1⟩
 |_=>exact AU f
abbrev c83(K:AM)(T:String)(r:V->List V->Hp->VK->Prop)(to:TE):TE:=λσ H Q=>to σ H λx H1=>tyV K T x H1/\r x [] H1 Q
abbrev tBM(K:AM)(T:String)(r:V->List V->Hp->VK->Prop)(to:TE)(t:TA):TE:=λσ H Q=>to σ H λx H1=>tyV K T x H1/\t σ H1 λxs H2=>r x xs H2 Q
variable {o e:AS} {es:List AS} {to:TE} {t:TA} {name:Str} {apos cpos:Pos} {T id:String} {r:V->List V->Hp->VK->Prop}
def bi0(l:PlainAttrs T)(d:Slot T name id)(e:KJ (.builtin id)=pure (.type "method_descriptor"))(n:MtR X id r)(m:PE X o to)
  (c:CN o name X.env (eval o X.env)=eval o X.env:=by rfl) (b:(apos.endLine==cpos.line)=AC:=by rfl):PE X (.Call (.Attribute o name apos) [] [] cpos) (c83 X.K T r to):=by
 intro a s f H Q I h;refine wpAny_Call_method0_late c b (thn (m a s f H _ I h) λv s1 z26=>?_);obtain⟨x,t,i,g,j,k⟩:=z26;obtain⟨q,p⟩:=be4 i g j;exact⟨T,id,l,d,e,q,p,Bq rfl (PySem.evalArgs_none (n a s1 f t x [] v [] Q i g .nil k))⟩
def c59(q:PlainAttrs T)(f:Slot T name id)(j:KJ (.builtin id)=pure (.type "method_descriptor"))(y:MtR X id r)(w:PE X o to)(z:PA X (e::es) t)
  (d:CN o name X.env (eval o X.env)=eval o X.env:=by rfl)
  (g:((Bp cpos (Aj (e::es) X.env)).all (λx=>!x.1)&&(El cpos (DF [] X.env)).all (λx=>x.1.isSome)
   &&AB ((e::es).length+([]:List Hu).length+(if([]:List Hu).isEmpty then 0 else 1)<30))=AC:=by rfl)
  (c:(apos.endLine==cpos.line)=AC:=by rfl) (u:Aj (e::es) X.env=(AG,eval e X.env)::Aj es X.env:=by rfl) (b:(Bp cpos (Aj es X.env)).any (·.1)=AG:=by rfl) :
  PE X (.Call (.Attribute o name apos) (e::es) [] cpos) (tBM X.K T r to t):=by
 intro a s i H Q I h;refine JI d g c rfl (thn (w a s i H _ I h) λv s1 z27=>?_);obtain⟨x,C,m,k,n,p⟩:=z27;obtain⟨B,A⟩:=be4 m k n;refine⟨T,id,q,f,j,B,A,?_⟩;have l:=z cpos a s1 i C _ m p;rw[u]at l ⊢;refine Bq (by show(AG||(Bp cpos (Aj es X.env)).any (·.1))=AG;rw[b]<;>rfl) (Cm ?_);exact thn l λus s2⟨vs,H2,I2,r2,q2⟩=>y a s2 i H2 x vs v us Q I2 k r2 q2
end
end
section
variable{us:List AF}{xs:List V}
abbrev MtM(X:Cx)(id:String)(r:V->List V->Hp->VK->Prop):Prop:=
 ∀(pins:List (AI×Obj))(s:AJ)(σ:St)(H:Hp)(x:V)(xs:List V)(v:AF)(us:List AF)(Q:VK),Inv X pins σ H s->i7 x v->g9 xs us->r x xs H Q ->
  AQ (model X.prog X.w) X.A (call (.builtin id) (v::us)) (EP X pins σ Q) X.xe s
def g9.one:∀{x}{us},g9 [x] us->∃u,us=[u]/\i7 x u
 |_,_,.cons r .nil=>⟨_,rfl,r⟩
def g9.two{x y}(h:g9 [x,y] us):∃u v,us=[u,v]/\i7 x u/\i7 y v:=by
 cases h with|cons r t=>cases t with|cons q t=>cases t;exact⟨_,_,rfl,r,q⟩
def g9.zero:∀{us:List AF},g9 [] us->us=[]
 |_,.nil=>rfl
theorem g9.dropLast(h:g9 xs us):g9 xs.dropLast us.dropLast:=by
 induction h with
 |nil=>exact .nil
 |cons r t c=>
  cases t with
  |nil=>exact .nil
  |cons q t'=>exact .cons r c
theorem g9.eraseIdx:∀{a}{us}i,g9 a us->g9 (a.eraseIdx i) (us.eraseIdx i)
 |_,_,_,.nil=>.nil
 |_,_,0,.cons _ t=>t
 |_,_,i+1,.cons r t=>.cons r (g9.eraseIdx i t)
theorem g9.reverse(h:g9 xs us):g9 xs.reverse us.reverse:=by
 induction h with
 |nil=>exact .nil
 |cons r t c=>rw[Di,Di];exact g9.append c (.cons r .nil)
def bp9{a:Type}(l:List a):l.eraseIdx (l.length-1)=l.dropLast:=by
 simp_all
theorem az9{a:Type}:∀(l:List a)i,(l.eraseIdx i).length<=l.length
 |[],_=>AX _
 |_::_,0=>Hr _
 |_::r,i+1=>Nat.succ_le_succ (az9 r i)
section
variable {X:Cx} {pins:List (AI×Obj)} {σ:St} {H:Hp} {s:AJ} {l b:AI} {ys zs:List V}
def Inv.lset{a its':List AF}{n}{f}{t'}(I:Inv X pins σ H s)(g:H l=AA (.lst xs))
  (e:s.heap.get? l=AA {cls:=.type "list",data:=.seq a.toArray n}) (d:f a.toArray=its'.toArray) (c:g9 ys its') (b:ys.length<=sizeLine) :
  Inv X pins σ (upd H l (.lst ys)) {s with heap:=s.heap.update l (GS f),toks:=t'}:=by
 have q:=PySem.IsL.update e f;rw[d]at q;exact I.write (g▸trivial) (.inl rfl) (λb' u hb=>(CH s.heap (GS f) (Ao hb)).trans) ⟨_,q⟩ ⟨b,its',_,c,q⟩
def Inv.lstM(I:Inv X pins σ H s)(b:H l=AA (.lst xs)):xs.length<=sizeLine/\∃(a:List AF)(n:Nat),g9 xs a/\xs.length=a.length/\s.heap.get? l=AA {cls:=.type "list",data:=.seq a.toArray n}:=by
 obtain⟨z,a,n,r,e⟩:=I.hok l _ b;exact⟨z,a,n,r,r.length,e⟩
def bz6{n}(h:n<=sizeLine):Ds n=AG:=decide_eq_false ⋯
end
section
variable {X:Cx}
abbrev b60:V->List V->Hp->VK->Prop:=λx vs H Q=>∃l xs y,x=.ref l/\vs=[y]/\H l=AA (.lst xs)/\xs.length<sizeLine/\Q .non (upd H l (.lst (xs++[y])))
def a53:MtM X "list.append" b60:=by
 intro b s i H x vs v us Q I d f h;obtain⟨l,j,y,rfl,rfl,c,k,q⟩:=h;cases d;obtain⟨u,rfl,g⟩:=f.one;obtain⟨z,a,n,r,m,e⟩:=I.lstM c;refine FZ F.slot_list_append ⟨_,e,rfl⟩ F.entry_list_append (F.args_list_append_2 _ _) (PySem.list_append l a.toArray n u (by rw[Ad];lia)) ⟨e,?_⟩;refine⟨.non,_,I.lset c e ∎ (r.append (.cons g .nil)) ?_,rfl,q⟩;rw[Ap,FH];lia
abbrev b58:V->List V->Hp->VK->Prop:=λx vs H Q=>∃l b xs zs,x=.ref l/\vs=[.ref b]/\H l=AA (.lst xs)/\H b=AA (.lst zs)/\xs.length+zs.length<=sizeLine/\Q .non (upd H l (.lst (xs++zs)))
def bs6:MtM X "list.extend" b58:=by
 intro f s y H x vs v us Q I i j h;obtain⟨l,b,C,A,rfl,rfl,g,t,D,q⟩:=h;cases i;obtain⟨u,rfl,k⟩:=j.one;cases k;obtain⟨z,c,n,r,E,e⟩:=I.lstM g;obtain⟨B,a,o,m,p,w⟩:=I.lstM t;have hsz:c.toArray.size+a.toArray.size<=sizeLine:=by rw[Ad,Ad];lia
 have d:¬(!c.toArray.isEmpty&&Ds (c.toArray.size+a.toArray.size))=AC:=by
  rw[bz6 hsz,Bool.and_false];exact AH
 refine FZ F.slot_list_extend ⟨_,e,rfl⟩ F.entry_list_extend (F.args_list_extend_2 _ _)
  (AutoSeq1.list_extend_list_list_0 l c.toArray n b a.toArray o d (by rw[Ad];lia) ⋯) ⟨e,w,?_⟩
 refine⟨.non,_,I.lset (its':=c++a) g e ∎ (r.append m) ?_,rfl,q⟩;rw[Ap];lia
abbrev c91:V->List V->Hp->VK->Prop:=λx vs H Q=>∃l xs y,x=.ref l/\vs=[]/\H l=AA (.lst xs)/\xs[xs.length-1]?=AA y/\Q y (upd H l (.lst xs.dropLast))
def cj6:MtM X "list.pop" c91:=by
 intro d s m H x vs v us Q I g i h;obtain⟨l,o,y,rfl,rfl,f,k,q⟩:=h;cases g;have c:=i.zero;subst c;obtain⟨z,a,n,r,t,e⟩:=I.lstM f;obtain⟨u,p,j⟩:=r.get k;have b:a.toArray[a.toArray.size-1]?=AA u:=by
  simp_all
 refine FZ Kf ⟨_,e,rfl⟩ KL (F.args_list_pop_1 _) (MeetsSeq.list_pop_last l a.toArray n u b (by rw[Ad];lia)) ⟨e,?_⟩;refine⟨y,_,I.lset f e ?_ r.dropLast ?_,j,q⟩
 ·rw[Ad,Ge,bp9]
 ·rw[List.length_dropLast];lia
abbrev cj0:V->List V->Hp->VK->Prop:=λx vs H Q=>∃l xs i k y,x=.ref l/\vs=[.int i]/\H l=AA (.lst xs)/\-(2^63)<=i/\i<2^63/\Iu i xs.length=AA k/\xs[k]?=AA y/\Q y (upd H l (.lst (xs.eraseIdx k)))
def by3:MtM X "list.pop" cj0:=by
 intro c s B H x vs v us Q I g j h;obtain⟨l,f,i,k,y,rfl,rfl,d,A,p,E,o,q⟩:=h;cases g;obtain⟨u,rfl,m⟩:=j.one;obtain⟨t,rfl⟩:=m;obtain⟨z,b,n,r,D,e⟩:=I.lstM d;obtain⟨w,C,a⟩:=r.get o;refine FZ Kf ⟨_,e,rfl⟩ KL (F.args_list_pop_2 _ _)
  (MeetsSeq.list_pop_at l b.toArray n i t k w (fitsIndex_both A p) (by simp_all) (by simp_all) (by rw[Ad];lia)) ⟨e,?_⟩
 refine⟨y,_,I.lset d e ?_ (r.eraseIdx k) ?_,a,q⟩
 ·rw[Ge]
 ·have:=az9 f k;lia
end
end
section
variable{kvs:List (Ac×V)}{o:Option V}{u:AF}{y:V}{P:AZ}{w:At}{H H':Hp}{xs:List (Ac×AI×AF)}{b a:AI}{X:Cx}{pins:List (AI×Obj)}{σ:St}{s:AJ}{A:BG}{Q:AF->AJ->Prop}{pos:Pos}
section
variable {κ:Type} [DecidableEq κ]
abbrev r8(kvs:List (κ×V))(k:κ):Option V:=(kvs.find? λkv=>AB (kv.1=k)).map (·.2)
abbrev z0(kvs:List (κ×V))(k:κ)(v:V):List (κ×V):=
 if(kvs.any λkv=>AB (kv.1=k))=AC then kvs.map (λkv=>if kv.1=k then(kv.1,v)else kv)else kvs++[(k,v)]
def ao9{p}{r}{k:κ}(e:p.1=k):r8 (p::r) k=AA p.2:=by simp[r8,e]
def ao0{p}{r}{k:κ}(e:¬p.1=k):r8 (p::r) k=r8 r k:=by simp[r8,e]
theorem ao1(k:κ):∀a,(a.any λkv=>AB (kv.1=k))=(r8 a k).isSome
 |[]=>rfl
 |p::r=>by
  rw[FQ]
  by_cases e:p.1=k
  ·simp only[ao9 e,decide_eq_true e,Hw,IU]
  ·rw[ao0 e,decide_eq_false e];exact ao1 k r
def am2 kvs(k:κ)v:(z0 kvs k v).length<=kvs.length+1:=by
 unfold z0
 split
 ·rw[AV];lia
 ·simp_all
def b34{kvs}{k:κ}v(h:r8 kvs k=AE):z0 kvs k v=kvs++[(k,v)]:=by
 unfold z0;rw[ao1,h];exact if_neg ∅
def A7.isSome_eq{u}(r:A7 o u):o.isSome=u.isSome:=by
 cases o with
 |none=>cases u with
  |none=>rfl
  |some _=>exact(r).elim
 |some _=>cases u with
  |none=>exact(r).elim
  |some _=>rfl
theorem A7.getD{u}{d}{d'}(r:A7 o u)(a:i7 d d'):i7 (o.getD d) (u.getD d'):=by
 cases o with
 |none=>cases u with
  |none=>exact a
  |some _=>exact(r).elim
 |some _=>cases u with
  |none=>exact(r).elim
  |some _=>exact r
def KV.val{kvs}{vs}(r:KV kvs vs)(k:κ):A7 (r8 kvs k) (HI vs k):=by
 induction r with
 |nil=>exact Bv
 |@cons p q g a h t i=>
  obtain⟨d,j⟩:=h
  by_cases e:p.1=k
  ·have c:=d.symm.trans e;have b:HI (q::a) k=AA q.2:=by simp[HI,c]
   rwa[ao9 e,b]
  ·have c:¬q.1=k:=λz=>e (d.trans z);have b:HI (q::a) k=HI a k:=by simp[HI,c]
   rwa[ao0 e,b]
theorem KV.any{kvs}{vs}(r:KV kvs vs)(k:κ):(kvs.any λkv=>AB (kv.1=k))=vs.any λkv=>AB (kv.1=k):=by
 induction r with
 |nil=>rfl
 |cons h t c=>simp_all
def KV.repl{kvs}{vs}(r:KV kvs vs)(k:κ)(c:i7 y u):
  KV (kvs.map λkv=>if kv.1=k then(kv.1,y)else kv) (vs.map λkv=>if kv.1=k then(kv.1,u)else kv):=by
 induction r with
 |nil=>exact .nil
 |@cons p q f d h t b=>
  refine .cons ?_ b;by_cases e:p.1=k
  ·simp_all
  ·simp_all
def KV.put{kvs}{vs}(r:KV kvs vs)(k:κ)(a:i7 y u):KV (z0 kvs k y) (stored vs k u):=by
 unfold z0 stored;rw[r.any k]
 by_cases e:(vs.any λkv=>AB (kv.1=k))=AC
 ·rw[if_pos e,if_pos e];exact r.repl k a
 ·rw[if_neg e,if_neg e];exact Paired.snoc r ⟨rfl,a⟩
theorem KV.length{a:List (κ×V)}{vs}(r:KV a vs):a.length=vs.length:=Paired.length r
end
def aa8{k}(r:i7 (kV k) u):(A0 P w).is k u=AC:=by
 cases k with
 |inl i=>obtain⟨t,e⟩:=r;subst e;exact bp0 P w i t
 |inr x=>obtain⟨t,e⟩:=r;subst e;exact bo8 P w x t
@[reducible]noncomputable def KT(H:Hp):List (Ac×V)->List (Ac×AI×AF)->Prop:=Paired λp q=>p.1=q.1/\F8 H p.1 q.2.1/\i7 p.2 q.2.2
def KT.val(r:KT H kvs xs)k:A7 (r8 kvs k) ((IP xs k).map (·.2)):=by
 induction r with
 |nil=>exact Bv
 |@cons p q g a h t i=>
  obtain⟨d,_,j⟩:=h
  by_cases e:p.1=k
  ·have c:=d.symm.trans e;have b:IP (q::a) k=AA q.2:=by simp[IP,c]
   rwa[ao9 e,b]
  ·have c:¬q.1=k:=λz=>e (d.trans z);have b:IP (q::a) k=IP a k:=by simp[IP,c]
   rwa[ao0 e,b]
def KT.repl(r:KT H kvs xs)k(c:i7 y u):
  KT H (kvs.map λkv=>if kv.1=k then(kv.1,y)else kv) (xs.map (putAt k u)):=by
 induction r with
 |nil=>exact .nil
 |@cons p q f d h t b=>
  refine .cons ?_ b;obtain⟨j,i,g⟩:=h;unfold putAt
  by_cases e:p.1=k
  ·simp_all
  ·simp_all
def KT.put(r:KT H kvs xs)(k:Ac)(c:F8 H k b)(a:i7 y u):
  KT H (z0 kvs k y) (storedH xs k b u):=by
 have e:(kvs.any λkv=>AB (kv.1=k))=(IP xs k).isSome:=by
  rw[ao1,(r.val k).isSome_eq,Option.isSome_map]
 unfold z0 storedH;rw[e]
 by_cases q:(IP xs k).isSome=AC
 ·rw[if_pos q,if_pos q];exact r.repl k a
 ·rw[if_neg q,if_neg q];exact Paired.snoc r ⟨rfl,c,a⟩
theorem KT.keeps(r:KT H kvs xs)(c:∀b a,H b=AA (.tup a)->H' b=AA (.tup a)):KT H' kvs xs:=
 Paired.mapP r λ_ _ z=>⟨z.1,z.2.1.keeps c,z.2.2⟩
section
variable {h:Au} 
def bj0{u}(b:HOk P w H h)(e:Rd H a u):=e.ok b
def ab1{kvs}(b:HOk P w H h)(e:Rd H a (.dK kvs)):kvs.length<=sizeLine/\(a==CK)=AG/\∃vs,KV kvs vs/\h.DictOf (A0 P w) a vs:=
 bj0 b e
def bk0{kvs}(b:HOk P w H h)(e:H a=AA (.dK kvs)):=ab1 b (.inl e)
def bs9(ok:HOk P w H h):∀(n:Nat)(d:Ac),d.depth<=n->∀{v:V}{u:AF},HRd H d v->i7 v u->∃c,Reads h u d c:=by
 have all:∀n,(∀d:Ac,d.depth<=n->∀{v:V}{u:AF},HRd H d v->i7 v u->∃c,Reads h u d c)->∀(ds:List Ac),CS ds<=n->∀{vs:List V}{us:List AF},O5 H ds vs->g9 vs us->∃c,ReadsAll h us ds c:=λn A ds=>by
  induction ds with
  |nil=>
   intro _ vs us q r;obtain rfl:vs=[]:=q;cases r;exact⟨_,.nil⟩
  |cons d ds z=>
   intro f vs us q r;obtain⟨v,vr,rfl,s,p⟩:=q;have hd':max d.depth (CS ds)<=n:=f;cases r with
   |cons r1 r2=>
    obtain⟨a1,x1⟩:=A d ⋯ s r1;obtain⟨a2,x2⟩:=z ⋯ p r2;exact⟨_,.cons x1 x2⟩
 intro n
 induction n with
 |zero=>
  intro d f v u q r;cases d with
  |int i=>obtain rfl:v=.int i:=q;obtain⟨t,rfl⟩:=(show ∃t,u=Dy i t from r);exact⟨_,.int _ _⟩
  |str x=>obtain rfl:v=.str x:=q;obtain⟨t,rfl⟩:=(show ∃t,u=Eh x t from r);exact⟨_,.str _ _⟩
  |tuple ds=>rw[NK.depth_tup]at f;lia
  |none=>exact q.elim
  |bool _=>exact q.elim
  |list _=>exact q.elim
  |dict _=>exact q.elim
 |succ n A=>
  intro d f v u q r;cases d with
  |int i=>obtain rfl:v=.int i:=q;obtain⟨t,rfl⟩:=(show ∃t,u=Dy i t from r);exact⟨_,.int _ _⟩
  |str x=>obtain rfl:v=.str x:=q;obtain⟨t,rfl⟩:=(show ∃t,u=Eh x t from r);exact⟨_,.str _ _⟩
  |none=>exact q.elim
  |bool _=>exact q.elim
  |list _=>exact q.elim
  |dict _=>exact q.elim
  |tuple ds=>
   rw[NK.depth_tup]at f;obtain⟨b,vs,rfl,s,p⟩:=q;cases(show u=Al b from r);obtain⟨_,its,rv,o,h1,h2,_,m,h3⟩:=(show l8 P w H h b (.tup vs) from ok b _ s);obtain⟨c,x⟩:=all n A ds ⋯ p rv;exact⟨_,.tuple h1 h2 h3 (by simpa using x)⟩
def T3{k}(b:HOk P w H h)(e:F8 H k a):(NK.dataKind P w).is h k a:=⟨e.1,e.2.1,bs9 b 7 k e.2.1 e.2.2 rfl⟩
def X2(f:HOk P w H h)(e:Rd H a (.dT kvs)):kvs.length<=sizeLine/\(a==CK)=AG /\
  ∃c,KT H kvs c/\h.DictOfH (NK.dataKind P w) a c:=by
 obtain⟨z,y,c,r,o,A,B,v,u,s,n,k⟩:=(bj0 f e);refine⟨z,y,c,r,o,A,B,v,u,s,n,λx b=>?_,k⟩;have d:∀{l}{m},KT H l m->∀x∈m,(NK.dataKind P w).is h x.1 x.2.1:=by
  intro l m q
  induction q with
  |nil=>simp_all
  |@cons p q D C g t j=>
   intro x b
   rcases AR.mp b with e|b
   ·subst e;exact T3 f (g.1▸g.2.1)
   ·exact j x b
 exact d r x b
def c37(b:HOk P w H h)(e:H a=AA (.dT kvs)):=X2 b (.inl e)
end
abbrev F9(H:Hp)(a:AI)(y:V)(r:Option V):Prop:=
 (∃kvs k,Rd H a (.dK kvs)/\y=kV k/\r=r8 kvs k)\/∃kvs k b,Rd H a (.dT kvs)/\y=.ref b/\F8 H k b/\r=r8 kvs k
abbrev ac0(H:Hp)(a:AI)(y v:V)(H':Hp):Prop:=
 (∃kvs k,H a=AA (.dK kvs)/\y=kV k/\kvs.length<sizeLine/\H'=upd H a (.dK (z0 kvs k v)))\/
 ∃kvs k b,H a=AA (.dT kvs)/\y=.ref b/\F8 H k b/\kvs.length<sizeLine/\H'=upd H a (.dT (z0 kvs k v))
theorem F9.k{kvs}{k}(e:H a=AA (.dK kvs)):F9 H a (kV k) (r8 kvs k):=.inl ⟨kvs,k,.inl e,rfl,rfl⟩
def F9.t{k}(e:H a=AA (.dT kvs))(c:F8 H k b):F9 H a (.ref b) (r8 kvs k):=.inr ⟨kvs,k,b,.inl e,rfl,c,rfl⟩
def ac0.t{k}{v}(e:H a=AA (.dT kvs))(d:F8 H k b)(c:kvs.length<sizeLine):
  ac0 H a (.ref b) v (upd H a (.dT (z0 kvs k v))):=.inr ⟨kvs,k,b,e,rfl,d,c,rfl⟩
section
variable {v:V} {r:AF} {E:AF->AJ->Prop}
def Inv.big(I:Inv X pins σ H s):CK<s.heap.objs.size:=(have h:=(I.mod.glob.keeps I.bk).lt;Nat.lt_trans ∅ h)
def bw8(q:A.units+20<CG)(I:Inv X pins σ H s)(g:F9 H a y (AA v))(o:i7 y u)(h:∀f s',Inv X pins σ H s'->i7 v f->Q f s'):
  AQ (model X.prog X.w) A (EA (.ref a) u) Q E s:=by
 rcases g with⟨i,k,e,n,l⟩|⟨i,k,b,e,n,x,l⟩
 ·subst n;obtain⟨z,t,vs,d,dd⟩:=ab1 I.hok e;obtain⟨f,j,c⟩:=A7.some_of (l▸d.val k);exact wpAny_getItem_of (aa8 o) dd.mapOf j (h f _ (I.tok _) c)
 ·subst n;cases(o);obtain⟨z,t,B,d,dd⟩:=X2 I.hok e;obtain⟨f,j,c⟩:=A7.some_of ((l▸d.val k));obtain⟨p,r,m⟩:=Option.map_eq_some_iff.mp j;refine wpAny_getItem_heap (NK.dataKind_room_in1 q) (T3 I.hok x) dd r ?_;rw[m];exact h f _ (I.tok _) c
def aq1{h'}{t'}{ob}(I:Inv X pins σ H s)(d:Mut (H a))(e:BB a s.heap h')(f:∃q,h'.get? a=AA q)(c:l8 X.prog X.w (upd H a ob) h' a ob):
  Inv X pins σ (upd H a ob) {s with heap:=h',toks:=t'}:=
 I.write d (.inl rfl) (λb q hb=>(e.2 b hb).trans) f c
def ar8{h'}{kvs}{vs}(z:kvs.length<=sizeLine)(c:(a==CK)=AG)(b:KV kvs vs)(dd:h'.DictOf (A0 P w) a vs):
  l8 P w H' h' a (.dK kvs):=⟨z,c,vs,b,dd⟩
def bs7{Q:Unit->AJ->Prop}(C:A.units+20<CG)(I:Inv X pins σ H s)(g:ac0 H a y v H')(p:i7 y u)(t:i7 v r)(h:∀s',Inv X pins σ H' s'->Q () s'):
  AQ (model X.prog X.w) A (KW (.ref a) u r) Q E s:=by
 rcases g with⟨d,k,e,n,l,o⟩|⟨d,k,b,e,n,x,l,o⟩
 ·subst n o;obtain⟨z,m,vs,c,dd⟩:=bk0 I.hok e;have i:vs.length<=sizeLine:=by rw[<-c.length];exact z
  have j:(z0 d k v).length<=sizeLine:=by have:=am2 d k v;lia
  refine wpAny_setItem_pairs (hsz:=i) (aa8 p) dd λh' dd' hs=>h _ ?_;have D:∃q,h'.get? a=AA q:=let⟨q,_,_,f,_⟩:=dd';⟨q,f⟩;exact aq1 I (by rw[e];exact Bv) hs D (ar8 j m (c.put k t) dd')
 ·subst n o;cases(show u=Al b from p);obtain⟨z,m,B,c,dd⟩:=c37 I.hok e;have i:B.length<=sizeLine:=by rw[<-Paired.length c];exact z
  have j:(z0 d k v).length<=sizeLine:=by have:=am2 d k v;lia
  refine wpAny_setItem_heap (hsz:=i) (NK.dataKind_room_in1 C) (T3 I.hok x) dd λh' dd' hs=>h _ ?_;obtain⟨q,L,M,f,K,J,G,_,F⟩:=dd';refine aq1 I (by rw[e];exact Bv) hs ⟨q,f⟩ ⟨j,m,_,(c.put k x t).keeps λc ys ec=>?_,q,L,M,f,K,J,G,F⟩;rw[f9 (c29 ec e (λz=>nomatch z))];exact ec
end
abbrev bl3(i:AS):Prop:=∀ov iv,subscripted i AG ov iv=operate [ov,iv] (EA ov iv)
def ba2{prog}{E}{env}{value slice}{T id}
  (c:Du (.type T) "__getitem__"=pure (AA (.builtin id))) (b:bl3 slice)
  (h:AQ (model prog w) A (eval value env) (λo s₁=>AQ (model prog w) A (eval slice env) (λi s₂=>s₂.TypeIs o T/\AQ (model prog w) A (EA o i) Q E s₂) E s₁) E s) :
  AQ (model prog w) A (eval (.Subscript value slice pos) env) Q E s:=by
 refine KH (BJ h (λo s₁ h₁=>BJ h₁ (λi s₂ a=>?_) λ_ _ x=>x) λ_ _ x=>x);obtain⟨d,a⟩:=a;refine AD ?_;refine AD (Ch d c ?_);have fin:AQ (model prog w) A (subscripted slice AG o i) (λr=>AQ (model prog w) A (letTemporaryGo value o r>>=λ_=>pure r) Q E) E s₂:=b o i▸wpAny_operating (BJ a (λr s₃ h₃=>AD (wpAny_letTemporaryGo (AL h₃))) λ_ _ x=>x)
 first
  |exact AL (AD fin)
  |grind
  |exact AD fin
def bo3(I:Inv X pins σ H s)(g:F9 H a y o):s.TypeIs (.ref a) "dict":=by
 rcases g with⟨kvs,k,e,_,_⟩|⟨kvs,k,b,e,_,_,_⟩
 ·obtain⟨_,_,vs,_,dd⟩:=ab1 I.hok e;exact dd.typeIs
 ·obtain⟨_,_,xs,_,dd⟩:=X2 I.hok e;exact dd.typeIs
abbrev c16(td ty:TE):TE:=λσ H Q=>td σ H λx H1=>ty σ H1 λy H2=>∃a v,x=.ref a/\F9 H2 a y (AA v)/\Q v H2
abbrev c60(td ty tv:TE):TS:=λD σ H=>tv σ H λv H1=>td σ H1 λx H2=>ty σ H2 λy H3=>∃a H4,x=.ref a/\ac0 H3 a y v H4/\D.nx σ H4
section
variable {o i e value:AS} {pos' tpos:Pos} {td ty tv:TE}
def cg0(j:X.A.units+20<CG)(l:PE X o td)(hi:PE X i ty)(k:bl3 i):PE X (.Subscript o i pos) (c16 td ty):=by
 intro b s c H Q I h;refine ba2 PySem.F.slot_dict_getitem.lookup k (thn (l b s c H _ I h) λu s1⟨x,H1,I1,rx,q1⟩=>thn (hi b s1 c H1 _ I1 q1) λiv s2 z28=>?_);obtain⟨y,n,d,e,a,v,m,g,f⟩:=z28;subst m;obtain rfl:u=Al a:=rx;exact⟨bo3 d g,bw8 j d g e λw' s3 I3 rw'=>⟨v,n,I3,rw',f⟩⟩
def b81(j:X.A.units+20<CG)(l:PE X o td)(hi:PE X i ty)(f:PE X value tv)(k:Cp value (AA (.Subscript o i pos')) pos.line X.env=pure AG):
  PS X (.Assign [.Subscript o i pos'] value pos) (c60 td ty tv):=by
 intro b s c H D I h;refine wpAny_Assign_Subscript (thn (f b s c H _ I h) λr s1⟨v,H1,I1,rv,q1⟩=>thn (l b s1 c H1 _ I1 q1) λu s2⟨x,H2,I2,rx,q2⟩=>thn (hi b s2 c H2 _ I2 q2) λiv s3 z29=>?_) k;obtain⟨y,q,n,d,a,p,m,g,e⟩:=z29;subst m;obtain rfl:u=Al a:=rx;exact bs7 j n g d rv λs4 I4=>⟨c,p,I4,e⟩
end
def b29(h:Au)(a:CK<h.objs.size):l8 P w H (h.push {cls:=.type "dict",data:=.dict #[]}) h.objs.size (.dK []):=
 ⟨BU _,beq_eq_false_iff_ne.mpr (Ao (BI a)),[],.nil,Hx h⟩
def bz0(h:Au)(a:CK<h.objs.size):l8 P w H (h.push {cls:=.type "dict",data:=.dict #[]}) h.objs.size (.dT []):=
 ⟨BU _,beq_eq_false_iff_ne.mpr (Ao (BI a)),[],.nil,_,#[],0,Ar _ rfl,⟨rfl,rfl,rfl⟩,rfl,rfl,Jt⟩
abbrev cm5:TE:=λ_ H Q=>∀p,H p=AE->Q (.ref p) (upd H p (.dT []))
section
def bx9:PE X (.Dict [] [] pos) cm5:=λpins s σ H Q I h=>
 wpAny_Dict_empty ⟨.ref s.heap.objs.size,_,I.laid (λ_ _=>AN _) (AX _) (bz0 s.heap I.big),rfl,h _ (I.hok.fresh (AX _))⟩
end
abbrev aa2:List (TE×TE)->St->Hp->(List (V×V)->Hp->Prop)->Prop
 |[],_,H,Q=>Q [] H
 |(tk,tv)::r,σ,H,Q=>tk σ H λx H1=>tv σ H1 λy H2=>aa2 r σ H2 λps H3=>Q ((x,y)::ps) H3
@[reducible]noncomputable def VV:List (V×V)->List (AF×AF)->Prop:=Paired λp q=>i7 p.1 q.1/\i7 p.2 q.2
abbrev PPs(X:Cx)(pos:Pos)(keys:List (Option AS))(values:List AS)(trs:List (TE×TE)):Prop:=
 ∀(pins:List (AI×Obj))(s:AJ)(σ:St)(H:Hp)(Q:List (V×V)->Hp->Prop),Inv X pins σ H s->aa2 trs σ H Q ->
  AQ (model X.prog X.w) X.A (evalPairs (pairTrees keys values X.env pos)) (λvs s'=>∃ps H',Inv X pins σ H' s'/\VV ps vs/\Q ps H') X.xe s
def b79:PPs X pos [] [] []:=λpins s σ H Q I h=>pairTrees_nil_walk ⟨[],H,I,.nil,h⟩
def b03{k v}{ks}{vs}{tk tv}{trs}(c:PE X k tk)(a:PE X v tv)(b:PPs X pos ks vs trs):
  PPs X pos (AA k::ks) (v::vs) ((tk,tv)::trs):=λpins s σ H Q I h=>
 pairTrees_cons_walk (thn (c pins s σ H _ I h) λu s1⟨x,H1,I1,rx,q1⟩=>thn (a pins s1 σ H1 _ I1 q1) λw2 s2⟨y,H2,I2,ry,q2⟩=>
  thn (b pins s2 σ H2 _ I2 q2) λws s3⟨ps,H3,I3,rel,q3⟩=>⟨(x,y)::ps,H3,I3,.cons ⟨rx,ry⟩ rel,q3⟩)
abbrev N7(kvs more:List (Key×V)):List (Key×V):=more.foldl (λacc kv=>z0 acc kv.1 kv.2) kvs
def KV.merge:∀{a}{c}{b}{vs},KV a c->KV b vs->KV (N7 b a) (merged vs c):=by
 intro a c b vs r;induction r generalizing b vs with
 |nil=>intro q;exact q
 |@cons p q j i h t g=>
  intro d;have e:KV (z0 b p.1 p.2) (stored vs q.1 q.2):=by
   have:=d.put p.1 h.2;rwa[<-h.1]
  exact g e
theorem aw0:∀b a,(N7 a b).length<=a.length+b.length
 |[],a=>by show a.length<=a.length+0;lia
 |p::r,a=>by
  have d:=aw0 r (z0 a p.1 p.2);have c:=am2 a p.1 p.2;show(N7 (z0 a p.1 p.2) r).length<=_;rw[AY];lia
theorem ay2{P}{w}:∀{d}{f},VV (d.map λkv=>(kV kv.1,kv.2)) f->∃e,Carries (A0 P w) f e/\KV d e
 |[],_,r=>by cases r;exact⟨[],Bv,.nil⟩
 |p::d,_,r=>by
  cases r with
  |@cons a b j bs h t=>
   obtain⟨e,c,q⟩:=ay2 t;obtain⟨i,g⟩:=b;exact⟨(p.1,g)::e,⟨aa8 h.1,rfl,c⟩,.cons ⟨rfl,h.2⟩ q⟩
abbrev c70(trs:List (TE×TE)):TE:=λσ H Q=>∀p,H p=AE->aa2 trs σ (upd H p (.dK [])) λps H2=>H2 p=AA (.dK [])/\∃kvs:List (Key×V),ps=kvs.map (λkv=>(kV kv.1,kv.2))/\kvs.length<=15/\Q (.ref p) (upd H2 p (.dK (N7 [] kvs)))
def cb3{a:List (Option AS)}{b:List AS}{d:List (TE×TE)}(h:PPs X pos a b d)(i:a.all (·.isSome)=AC)(y:a.length=b.length)(D:a≠[])
  (k:a.length<=15):PE X (.Dict a b pos) (c70 d):=by
 intro f s m H Q I q;have x:=I.hok.fresh (AX s.heap.objs.size);have F:=I.laid (t':=s.toks) (λ_ _=>AN _) (AX _) (b29 s.heap I.big);refine wpAny_Dict_walk (knd:=A0 X.prog X.w) i y D k (thn (h f _ m _ _ F (q _ x)) λws s2 z30=>?_);obtain⟨G,K,l,j,e,g,E,J,t⟩:=z30;subst E;obtain⟨o,c,p⟩:=ay2 j;obtain⟨z,B,n,r,dd⟩:=bk0 l.hok e;cases r;refine⟨o,c,dd,λh' dd' hs=>⟨.ref s.heap.objs.size,_,?_,rfl,t⟩⟩;have u:(N7 [] g).length<=sizeLine:=by
  have C:=aw0 g [];rw[BW]at C;rw[GP];lia
 have A:∃q,h'.get? s.heap.objs.size=AA q:=let⟨q,_,_,v,_⟩:=dd';⟨q,v⟩;exact aq1 l ((e▸Bv)) hs A (ar8 u B (p.merge .nil) dd')
structure M1(X:Cx)(o:AS)(m:Str)(apos:Pos)(e:AS)(cpos:Pos):Prop where
 base:CN o m X.env (eval o X.env)=eval o X.env
 few:((Bp cpos (Aj [e] X.env)).all (λx=>!x.1)&&(El cpos (DF [] X.env)).all (λx=>x.1.isSome)
  &&AB (([e]:List AS).length+([]:List Hu).length+(if([]:List Hu).isEmpty then 0 else 1)<30))=AC
 line:(apos.endLine==cpos.line)=AC
 trees:Bp cpos (Aj [e] X.env)=[(AG,eval e X.env)]
abbrev IsD(H:Hp)(a:AI):Prop:=(∃kvs,Rd H a (.dK kvs))\/∃kvs,Rd H a (.dT kvs)
def cv0(I:Inv X pins σ H s)(d:IsD H a):
  s.TypeIs (.ref a) "dict"/\(∀b,Al a=.ref b->∃ob,s.heap.get? b=AA ob/\ob.dict=AE)/\(a==CK)=AG:=by
 rcases d with⟨c,e⟩|⟨c,e⟩
 ·obtain⟨_,f,vs,_,dd⟩:=ab1 I.hok e;refine⟨dd.typeIs,λb q=>?_,f⟩;cases q;obtain⟨ob,_,_,h,g,_⟩:=dd;exact⟨ob,h,g.2.1⟩
 ·obtain⟨_,f,i,_,dd⟩:=X2 I.hok e;refine⟨dd.typeIs,λb q=>?_,f⟩;cases q;obtain⟨ob,_,_,h,g,_⟩:=dd;exact⟨ob,h,g.2.1⟩
section
variable {d:V} {r:AF} {E:AF->AJ->Prop}
def cp9(p:A.units+20<CG)(I:Inv X pins σ H s)(g:F9 H a y o)(m:i7 y u)(h:∀j s',Inv X pins σ H s'->i7 (o.getD .non) j->Q j s'):
  AQ (model X.prog X.w) A (call (.builtin "dict.get") [.ref a,u]) Q E s:=by
 rcases g with⟨d,k,e,i,l⟩|⟨d,k,b,e,i,q,l⟩
 ·subst i;obtain⟨z,f,vs,c,dd⟩:=ab1 I.hok e;refine call_meetsIn PySem.F.slot_dict_get dd.typeIs PySem.F.entry_dict_get (PySem.F.args_dict_get_2 _ _) (meets_dict_get (A0 X.prog X.w) a (aa8 m) f) ⟨_,dd.mapOf,h _ _ (I.tok _) ?_⟩;rw[l];exact(c.val k).getD rfl
 ·subst i;cases(m);obtain⟨z,f,n,c,dd⟩:=X2 I.hok e;refine call_meetsIn PySem.F.slot_dict_get dd.typeIs PySem.F.entry_dict_get (PySem.F.args_dict_get_2 _ _) (meetsH_dict_get (NK.dataKind X.prog X.w) a b f) ⟨NK.dataKind_room_in1 p,k,n,T3 I.hok q,dd,h _ _ (I.tok _) ?_⟩;rw[l];exact(c.val k).getD rfl
end
abbrev co8(td ty:TE):TE:=λσ H Q=>td σ H λx H1=>∃a,x=.ref a/\IsD H1 a/\ty σ H1 λy H2=>∃o,F9 H2 a y o/\Q (o.getD .non) H2
section
variable {o e f:AS} {apos cpos:Pos} {td ty tx:TE}
def a58(n:X.A.units+20<CG)(p:PE X o td)(q:PE X e ty)(m:M1 X o "get" apos e cpos):PE X (.Call (.Attribute o "get" apos) [e] [] cpos) (co8 td ty):=by
 intro b s c H Q I h;refine Kg m.base m.few m.line PySem.F.plainAttrs_dict PySem.F.slot_dict_get PySem.F.type_dict_get (thn (p b s c H _ I h) λu s1 z31=>?_);obtain⟨x,t,f,k,a,r,d,l⟩:=z31;subst r;obtain rfl:u=Al a:=k;obtain⟨j,i,_⟩:=cv0 f d;refine⟨j,i,?_⟩;rw[m.trees];exact Bq rfl (Cm (DL (thn (q b s1 c t _ f l) λiv s2⟨y,H2,I2,ry,ov,g,q2⟩=>EQ (cp9 n I2 g ry λw' s3 I3 rw'=>⟨_,H2,I3,rw',q2⟩))))
end
end
end L2
namespace Att
open PySem PySem.W PySem.Calls PyProof.Rows
def bm8{P}{h}:∀ns(vs),WellAll P h vs (ns.map La)->HH vs ns:=by
 intro ns
 induction ns with
 |nil=>
  intro vs w;cases w;exact .nil
 |cons n ns e=>
  intro vs w;cases w with
  |cons a b=>
   cases a;exact .cons _ _ (e _ b)
def bv2{l:OpenLaw}{n}(q:l.most=AA n){P}{h}{args}{vals}
  (b:l.row.toRowW.claim.pre args=AC) (f:WellAll P h vals args) :
  ∃a vs ns,vals=[Al a]/\args=[WData.list (ns.map La)]/\h.get? a=AA {cls:=.type "list",data:=.seq vs.toArray}/\HH vs ns/\ns.length<=n:=by
 have g:=(pre_splitW b).1;have s:=(pre_splitW b).2;obtain⟨d,r,rfl,v,u⟩:=hasAllW_cons g;obtain rfl:=hasAllW_nil u;obtain⟨w,rfl,t⟩:=hasW_list v;obtain⟨ns,rfl⟩:=items_int t;have c:ns.length<=n:=by
  have i:=by
   have i:=(holds_andW s).1;rwa[q]at i
  have x:=condW_of i (w_not (w_lt w_lit (w_len_list (w_arg rfl))));first
   |rfl
   |simp_all
 cases f with
 |cons o m=>
  cases m;cases o with
  |list p e=>exact⟨_,_,ns,rfl,rfl,p,bm8 ns _ e,c⟩
def bu8(l:OpenLaw)args:l.row.toRowW.claim.post args (.bool AC) args=AC:=
 postW_of
  rfl
  (w_eq_bool (w_res rfl) w_lit) rfl
def attach_call{l:OpenLaw}{n}{q}{loose}{XP}{YP}{d}
  (I:l.most=AA n) (y:d.params.defaults=[])
  (m:∀w(c b)p u(k)(o)t s g(a)(vs)ns,
   Ground q loose [] XP w c p u b.heap->YP w b.heap ->
   b.heap.get? k=AA o->o.data=.func (docDef d.name d.params d.body d.scope t s g)->b.heap.CodeRec s d.name->p d.name=AA (.ref k) ->
   b.heap.get? a=AA {cls:=.type "list",data:=.seq vs.toArray}->HH vs ns->ns.length<=n->b.gens=#[] ->
   Dz (model l.prog w) Hy (.call (.ref k) ⟨[.ref a],[]⟩) (λr s'=>r=.ok (.ret (.bool AC))/\OldK b.heap s'.heap/\s'.os=b.os/\ES s'.gens) b) :
  WalkO q loose XP YP l.row.toRowW d [] (λf vs=>PySem.call f vs):=by
 intro w c b p u G Y k o t s g P E H L z C x K D A Q h B F v J;obtain rfl:P=.none:=Dflts.none C y;obtain rfl:E=.none:=Dflts.noKw C;obtain⟨a,vs,ns,rfl,rfl,i,e,j⟩:=bv2 I h v;refine enter_call (De (m w c b p u k o t s g a vs ns G Y H (fd_plain L) z x i e j K) λr s' hq=>?_);obtain⟨rfl,O,N,M⟩:=hq;exact⟨.inl ⟨.bool AC,.bool AC,[],rfl,λ_=>rfl,.bool AC,bu8 l _,λ_=>⟨LF,λ_ hm=>(nomatch hm)⟩⟩,O,N,M⟩
section
variable {prog:AZ} {w:At} {A:BG} {E:AF->AJ->Prop} {s:AJ} {K:Frag}
abbrev de8(h:Au)(L d:AI):List (AI×Obj):=(DN h.objs.size).filterMap λa=>if a=L\/a=d then AE else(h.get? a).map λo=>(a,o)
end
end Att
namespace L2
open PySem PySem.Spec PyProof.Rows
theorem a06:∀{vs}{ns},HH vs ns->g9 (ns.map V.int) vs
 |_,_,.nil=>.nil
 |_,_,.cons n t h=>.cons ⟨t,rfl⟩ (a06 h)
abbrev y0(s:BP):DM:=match s with
 |.FunctionDef _ a _ _ _ _ _ _ _ _=>a
 |_=>{posonlyargs:=[],args:=[],vararg:=AE,kwonlyargs:=[],kw_defaults:=[],kwarg:=AE,defaults:=[]}
abbrev t3(s:BP):List BP:=match s with
 |.FunctionDef _ _ b _ _ _ _ _ _ _=>b
 |_=>[]
abbrev l9(s:BP):BE:=match s with
 |.FunctionDef _ _ _ _ _ _ sc _ _ _=>sc
 |_=>{kind:=.function,names:=[],isGenerator:=AG,isCoroutine:=AG}
@[reducible]noncomputable def CX0:CXT:=λ_ _ _ _ _ _=>False
@[reducible]noncomputable def E0:XK:=λ_ _ _=>False
def az8{n:Nat}(h:n<=1000):n<sizeLine:=JJ h ∅
abbrev F7(H H':Hp):Prop:=∀b o,H b=AA o->H' b=AA o
def F7.refl(H:Hp):F7 H H:=λ_ _ h=>h
def F7.trans{H H1 H2}(a:F7 H H1)(b:F7 H1 H2):F7 H H2:=λc o h=>b c o (a c o h)
variable{s:AJ}{scope:BE}{env:Env}{cells:List (Str×AI)}{x:Str}{X:Cx}{Nc:List Str}{fr:List Nat}{C:AI}{fp:List AI}{pins:List (AI×Obj)}{σ:St}{H:Hp}
def bn9{prog}{w}{A}{R:IK->AJ->Prop}{elt target iter}{b:List AS}{pos}{it acc}(I:Nat->AJ->Prop)
  (a:∀n s,I n s->AQ (model prog w) A (Ei it) (λr s₁=>match r with
   |none=>R (.ok .next) s₁
   |some v=>AQ (model prog w) A (Fl target it v) (λ_ s₁'=>AQ (model prog w) A (assign target env v) (λ_ s₂=>
     AQ (model prog w) A (forIn b AC λc r=>if r=AC then do let ok <-IH c env (eval c env);pure (Bg ok)else pure (Bg r)) (λok s₃=>
      if ok=AC then AQ (model prog w) A (eval elt env) (λx s₄=>
       AQ (model prog w) A (call (.builtin "list.append") [acc,x]) (λ_ s₅=>∃m,m<n/\I m s₅) (λ_ _=>False) s₄) (λ_ _=>False) s₃
      else ∃m,m<n/\I m s₃) (λ_ _=>False) s₂) (λ_ _=>False) s₁') (λ_ _=>False) s₁) (λ_ _=>False) s)
  (n:Nat) (h:I n s) :
  Dz (model prog w) A (.compLoop (.ListComp elt [⟨target,iter,b,0⟩] scope pos) 0 it acc env) R s:=by
 refine codeAny_loop rfl I (λn s hI=>?_) n h;refine wpAny_noted ?_;rw[compTurn_list];refine AD (Ib (AD (BJ (a n s hI) (λr s₁ h₁=>?_) λ_ _ h'=>h'.elim)));cases r with
 |none=>exact AL h₁
 |some v=>
  refine AD (BJ h₁ (λ_ s₁' h₁'=>?_) λ_ _ h'=>h'.elim);refine AD (BJ h₁' (λ_ s₂ h₂=>AD (BJ h₂ (λok s₃ h₃=>?_) λ_ _ h'=>h'.elim)) λ_ _ h'=>h'.elim);cases ok with
  |false=>exact AL ⟨rfl,h₃⟩
  |true=>
   exact AD (AD (BJ h₃ (λx s₄ h₄=>AD (BJ h₄ (λ_ s₅ h₅=>AL (AL ⟨rfl,h₅⟩)) λ_ _ h'=>h'.elim)) λ_ _ h'=>h'.elim))
abbrev w8(cells:List (Str×AI)):List (Str×GQ)->List (Str×AI)->List (Str×AI)
 |[],acc=>acc
 |(n,k)::r,acc=>w8 cells r (if k==.free then(match cells.lookup n with|some a=>(n,a)::acc|none=>acc)else acc)
theorem am5:∀(b:List (Str×GQ))(c:List (Str×AI)),(∀x∈b,x.2=.free->(env.cells.lookup x.1).isSome=AC) ->
  (forIn b c λx r=>match x with
   |(name,d)=>if(d==Aw)=AC then do let a <-Lq env name;pure (Bg ((name,a)::r))else pure (Bg r):Sem (List (Str×AI)))=pure (w8 env.cells b c)
 |[],c,_=>rfl
 |(n,k)::r,c,h=>by
  have e:=λx hx=>h x (Am _ hx);rw[Jb];cases hk:(k==Aw)with
  |false=>
   simp only[hk,Bm,if_false,pure_bind];rw[am5 r c e];simp only[w8,hk,Bm,if_false]
  |true=>
   have g:=by simpa using hk
   obtain⟨a,f⟩:=BC.mp (h (n,k) Bo g);have i:Lq env n=pure a:=by unfold Lq;rw[f]
   simp only[hk,if_true,i,pure_bind];rw[am5 r _ e];simp only[w8,hk,if_true,f]
def am7{env}(h:∀x∈scope.names,x.2=.free->(env.cells.lookup x.1).isSome=AC):IQ scope env=pure (w8 env.cells scope.names []):=by
 have e:=am5 scope.names [] h;show(forIn scope.names [] λx r=>match x with
   |(name,b)=>if(b==Aw)=AC then do let a <-Lq env name;pure (Bg ((name,a)::r))else pure (Bg r):Sem (List (Str×AI)))>>=pure=_
 rw[e];rfl
theorem a67:∀{b}{d}{x}{c},(x,c)∈w8 cells b d->(x,c)∈d\/cells.lookup x=AA c/\(x,Aw)∈b
 |[],d,x,c,h=>.inl h
 |(n,k)::r,d,x,c,h=>by
  unfold w8 at h
  rcases a67 h with f|⟨f,i⟩
  ·cases hk:k==Aw with
   |false=>simp_all
   |true=>
    have g:=by simpa using hk
    subst g;cases hc:cells.lookup n with
    |none=>rw[hc]at f;exact .inl f
    |some a=>
     rw[hc]at f
     rcases AR.mp f with e|e
     ·simp_all
     ·exact .inl e
  ·simp_all
theorem a79:∀{a}{b}{x}{c},cells.lookup x=AA c->(x,Aw)∈a\/(x,c)∈b->(x,c)∈w8 cells a b
 |[],b,x,c,_,h=>by
  rcases h with h|h
  ·cases h
  ·exact h
 |(n,k)::r,b,x,c,d,h=>by
  unfold w8;refine a79 d ?_
  rcases h with h|h
  ·rcases AR.mp h with e|e
   ·simp_all
   ·exact .inl e
  ·refine .inr ?_
   split
   ·split
    ·exact Am _ h
    ·exact h
   ·exact h
def am4{α}{l:List (Str×α)}{a}(h:l.lookup x=AA a):=PySem.mem_of_lookup h
theorem ax7{c:Type}:∀{l:List (Str×c)}{x}{a},(x,a)∈l->∃b,l.lookup x=AA b
 |[],_,_,h=>by cases h
 |(y,b)::r,x,a,h=>by
  rw[EI];cases e:x==y with
  |true=>exact⟨b,rfl⟩
  |false=>
   rcases AR.mp h with z|z
   ·grind
   ·exact ax7 z
def O6{names}{c}(h:(w8 cells names []).lookup x=AA c):cells.lookup x=AA c/\(x,Aw)∈names:=by
 rcases a67 (am4 h)with z|z
 ·cases z
 ·exact z
def af2{names}{c}(h:cells.lookup x=AA c)(a:(x,Aw)∈names):(w8 cells names []).lookup x=AA c:=by
 obtain⟨b,d⟩:=ax7 (a79 h (.inl a));have:=(O6 d).1;grind
structure CompScope(X:Cx)(scope:BE)(Nc:List Str)(fr:List Nat)(k:Nat):Prop where
 kind:scope.kind=.function
 nocell:∀y∈scope.names,y.2≠.cell
 names:∀y∈scope.names,y.2=.local->scope.names.lookup y.1=AA .local
 frees:∀y∈scope.names,y.2=.free->X.env.scope.names.lookup y.1=AA .cell\/X.env.scope.names.lookup y.1=AA .free
 uniq:∀y∈scope.names,y.2=.free->(y.1,NameKind.local)∉scope.names
 nd:Nc.Nodup
 len:Nc.length=fr.length+k
 fre:∀i x,Nc[i]?=AA x->i<fr.length->∃j,fr[i]?=AA j/\X.N[j]?=AA x/\(x,Aw)∈scope.names
abbrev L6(fr:List Nat)(k:Nat)(σ:St):St:=(fr.map λj=>(σ[j]?).join)++Cq k AE
def bn6(h:(relabel scope env).names.lookup x=AA .cell\/(relabel scope env).names.lookup x=AA .free)(g:∀y∈scope.names,y.2≠.cell):(x,Aw)∈scope.names:=by
 have b:∀k,(relabel scope env).names.lookup x=AA k->k=.cell\/k=.free->(x,Aw)∈scope.names:=by
  intro k e d;have c:=am4 e;obtain⟨⟨n,f⟩,i,a⟩:=DV.mp c;dsimp only at a
  split at a
  ·grind
  ·grind
 rcases h with h|h
 ·exact b _ h (.inl rfl)
 ·exact b _ h (.inr rfl)
def bo6:∀{k},(relabel scope env).names.lookup x=AA k->∃b,(x,b)∈scope.names/\(k=b\/b=.free/\k=.cell):=by
 intro k f;have e:=am4 f;obtain⟨⟨n,b⟩,d,c⟩:=DV.mp e;dsimp only at c
 split at c
 ·rename_i a;cases c;refine⟨_,d,.inr ⟨?_,rfl⟩⟩;simp at a;exact a.1.1
 ·cases c;exact⟨_,d,.inl rfl⟩
abbrev Cx.comp(X:Cx)(scope:BE)(Nc:List Str)(C:AI)(fp:List AI)(pins:List (AI×Obj))(s:AJ)(H:Hp):Cx:=
 {X with N:=Nc,s₀:=s,H₀:=H,env:=Lr scope (w8 X.env.cells scope.names []) C X.env,outer:=X.stack,stack:=X.stack,ex:=fp,fn:=λ_=>AG,pn:=X.pn++pins,xe:=λ_ _=>False,ow:=λ_=>AG}
def Cx.comp_ok{k}(S:CompScope X scope Nc fr k)(I:Inv X pins σ H s)
  (j:s.heap.objs.size<=C) (g:∀b∈fp,C2 X pins H b) (f:∀b∈fp,b<s.heap.objs.size):(X.comp scope Nc C fp pins s H).Ok where
 mod:=I.ok.mod
 kind:=S.kind
 glob:=I.ok.glob
 blt:=I.ok.blt
 above:=j
 inj:=λx y c a d=>I.ok.inj x y c (O6 a).1 (O6 d).1
 has:=λx h=>by
  have i:=bn6 h S.nocell;have l:=S.frees _ i rfl;obtain⟨c,m⟩:=I.ok.has x l;exact⟨c,af2 m i⟩
 cab:=λx c h _=>h.elim (λz=>nomatch z) λz=>nomatch z
 hd:=I.ok.hd
 frames:=I.ok.frames
 stk:=.inl rfl
 exf:=λb hb=>⟨λz=>by have a:=f b hb;have d:=z;rw[d]at a;exact absurd a (Ls.mpr j),λx c h=>(g b hb).2.2.2.2.1 x c (O6 h).1⟩
 bs:=I.bs
 bsz:=Ax I.ok.bsz I.sz
 noex:=λb o e hb=>by
  obtain⟨p,a,d,n,r,q⟩:=g b hb
  rcases n with z|z
  ·exact I.ok.noex b o e z
  ·have:=(I.ok.bs b o e).1;exact absurd (Ah (Aq this) z) (DJ _)
 exfs:=λb hb z=>by
  obtain⟨p,a,d,_⟩:=g b hb
  rcases AR.mp (I.stkSub b z)with e|e
  ·exact a e
  ·exact d e
 funs:=I.stack
 frf:=I.stkFree
def bs0{k:Nat}{h:Au}{tk:Nat}(S:CompScope X scope Nc fr k)(I:Inv X pins σ H s)
  (D:s.heap.objs.size<=C) (W:∀b∈fp,C2 X pins H b) (y:∀b∈fp,b<s.heap.objs.size) (g:∀b o,s.heap.get? b=AA o->h.get? b=AA o) (T:h.Ns C (λ_=>AE)) :
  Inv (X.comp scope Nc C fp pins s H) [] (L6 fr k σ) H {s with heap:=h,toks:=tk}:=by
 have A:H C=AE:=I.hok.fresh D;refine⟨Cx.comp_ok S I D W y,rfl,I.bare,Un.kept g,⟨_,T,λi x v e1 e2 e3=>?_⟩,λx c e=>?_,A,λx c e=>(I.freeC x c (O6 e).1).imp id λz=>⟨rfl,z.2⟩,λp hp=>?_,I.hok.kept g,?_⟩
 ·have hi:i<fr.length:=by
   unfold L6 at e2
   by_cases hi:i<fr.length
   ·exact hi
   ·rw[An (by simpa using hi),Da]at e2
    split at e2<;>cases e2
  obtain⟨j,V,Y,n⟩:=S.fre i x e1 hi;have F:σ[j]?=AA (AA v):=by
   unfold L6 at e2;rw[Aa (by simpa using hi),Ak,V]at e2;simp only[Gq,Bj]at e2;cases q:σ[j]? with
   |none=>rw[q]at e2;cases e2
   |some o=>rw[q]at e2;exact congrArg AA e2
  obtain⟨m,R,U⟩:=I.loc;have f:Vis X.env.scope x:=by
   rcases S.frees _ n rfl with z|z
   ·exact .inr (.inl z)
   ·exact .inr (.inr z)
  obtain⟨u,r,l⟩:=U j x v Y F f;refine⟨u,r,?_⟩
  rcases l with⟨J,_⟩|⟨J,c,Q,P⟩
  ·exfalso;have d:X.env.scope.names.lookup x=AA .local:=J
   rcases S.frees _ n rfl with z|z
   ·rw[d]at z;cases z
   ·rw[d]at z;cases z
  ·refine .inr ⟨?_,c,af2 Q n,?_⟩
   ·have E:Vis (relabel scope X.env) x:=e3
    rcases E with z|z|z
    ·exfalso;obtain⟨Z,h,a⟩:=bo6 z
     rcases a with a|a
     ·subst a;exact S.uniq _ n rfl h
     ·cases a.2
    ·exact .inl z
    ·exact .inr z
   ·obtain⟨o,w,B⟩:=P;exact⟨o,g _ _ w,B⟩
 ·obtain⟨v,o,w,B⟩:=I.cell x c (O6 e).1;exact⟨v,o,g _ _ w,B⟩
 ·have t:p∈X.pn++pins:=by
   have:p∈(X.pn++pins)++[]:=hp;simpa using this
  obtain⟨G,O,N,M,L⟩:=I.pin p t;refine⟨g _ _ G,O,λz=>?_,λz=>?_,L⟩
  ·have a:p.1=C:=z;have K:=Aq G;rw[a]at K;exact absurd K (Ls.mpr D)
  ·rcases AR.mp (I.stkSub p.1 z)with e|e
   ·exact N e
   ·exact M e
 ·unfold L6;rw[Ap,AV,FG];exact S.len.symm
def bt4{pl}{c:St}{H'}{s'}(I:Inv X pins σ H s)(f:∀b∈fp,C2 X pins H b)
  (a:Inv (X.comp scope Nc C fp pins s H) pl c H' s'):Inv X pins σ H' s':=by
 obtain⟨l,g,d,t,e⟩:=s';obtain rfl:e=s.os:=a.os;exact I.call a.base a.hok a.bare λb hb=>by
  obtain⟨n,k,m,j,i,h⟩:=f b hb;exact⟨j,k,i,h⟩
def ay0{d:St}{H0}{s0}{h'}(a:Inv X pins d H0 s0)hC(I:Inv X pins σ H s)hn
  (f:BB C s.heap h'):=by
 refine I.turned (t':=s.toks) (λb o hb=>(f.2 b hb).trans) hn ?_ (.inr (Ax a.sz hC)) ?_ ?_
 ·exact λz=>absurd (Ah a.lt hC) (by simp_all)
 ·intro x c e z;obtain⟨v,q⟩:=a.cell x c e;exact absurd (Ah q.lt hC) (by simp_all)
 ·intro p g z;exact absurd (Ah (Aq (a.pin p g).1) hC) (by simp_all)
abbrev ar3(fr:List Nat)(k:Nat)(wi:TI)(g:TG)(tc:TT)(te:TE)(fin:V->Hp->Prop):St->Hp->Prop:=λσ H=>
 wi σ H λJ H1=>∀p,H1 p=AE->∃W:Nat->Nat->St->Hp->Prop,(∃m,W 0 m (L6 fr k σ) (upd H1 p (.lst [])))/\∀i m σc H2,W i m σc H2 ->
  (J.stop i H2/\fin (.ref p) H2)\/(J.go i H2/\∃N:St->Hp->Prop,(∀σ' H',N σ' H'->∃m',m'<m/\W (i+1) m' σ' H') /\
   ∀x H3,J.yld i H2 x H3->g x σc H3 λσ4 H4=>tc σ4 H4 λb H5=>if b=AC then te σ4 H5 λv H6=>∃ys,H6 p=AA (.lst ys)/\ys.length<sizeLine/\N σ4 (upd H6 p (.lst (ys++[v])))else N σ4 H5)
abbrev PCs(X:Cx)(ifs:List AS)(t:TT):Prop:=
 ∀(pins:List (AI×Obj))(s:AJ)(σ:St)(H:Hp)(Q:Bool->Hp->Prop),Inv X pins σ H s->t σ H Q ->
  AQ (model X.prog X.w) X.A (forIn ifs AC λc r=>if r=AC then do let ok <-IH c X.env (eval c X.env);pure (Bg ok)else pure (Bg r)) (TP X pins σ Q) X.xe s
abbrev cx2:TT:=λ_ H Q=>Q AC H
def b86:PCs X [] cx2:=λ_ _ _ H _ I h=>wpAny_tests_nil ⟨H,I,h⟩
def ce6{c}{t}(a:PT X c t):PCs X [c] t:=λpins s σ H Q I h=>wpAny_tests_one (a pins s σ H Q I h)
section
variable {k:Nat} {tg iter elt:AS} {ifs:List AS} {wi:TI} {g:TG} {tc:TT} {te:TE} {pos:Pos}
def ax5(hc:X.calm=AC)(S:CompScope X scope Nc fr k)(hg:∀C l a s H,PG (X.comp scope Nc C l a s H) tg g)(ht:∀C l a s H,PCs (X.comp scope Nc C l a s H) ifs tc)(he:∀C l a s H,PE (X.comp scope Nc C l a s H) elt te)
  {a:List (AI×Obj)} {σ:St} {f:AJ} {F:Hp} {it:AI} {l:List AI} {U:Nat->Au->Prop} {J:It} {fin:V->Hp->Prop} {RR:AF->AI->IK->AJ->Prop} {E:AF->AJ->Prop}
  (I2:Inv X a σ F f) (T:Turn X.prog X.w X.K tg J l it U) (st2:U 0 f.heap) (f2:∀b∈l,C2 X a F b)
  (h:∀p,F p=AE->∃W:Nat->Nat->St->Hp->Prop,(∃m,W 0 m (L6 fr k σ) (upd F p (.lst [])))/\∀i m σc F,W i m σc F ->
   (J.stop i F/\fin (.ref p) F)\/(J.go i F/\∃N:St->Hp->Prop,(∀r B,N r B->∃O,O<m/\W (i+1) O r B) /\
    ∀x H3,J.yld i F x H3->g x σc H3 λσ4 H4=>tc σ4 H4 λb H5=>if b=AC then te σ4 H5 λv H6=>∃ys,H6 p=AA (.lst ys)/\ys.length<sizeLine/\N σ4 (upd H6 p (.lst (ys++[v])))else N σ4 H5))
  (hRR:∀(D C:AI)(B:Hp)(s':AJ)(s3:AJ)(H3:Hp)(O:Str->Option AF),Inv X a σ H3 s3->s3.heap.objs.size<=C->Inv X a σ B s'->B C=AE->s'.heap.Ns C O->fin (.ref D) B->RR (.ref D) C (.ok .next) s') :
  AQ (model X.prog X.w) X.A (newList []) (λacc t=>AQ (model X.prog X.w) X.A (Lu scope X.env.globals (w8 X.env.cells scope.names []) [] X.env.qual AE .none (AA X.env)) (λcenv s₄=>
   Dz (model X.prog X.w) X.A (.compStart (.ListComp elt [⟨tg,iter,ifs,0⟩] scope pos) 0 (.ref it) acc {cenv with scope:=relabel scope X.env}) (RR acc cenv.locals) s₄) E t) E f:=by
 have hp:=I2.hok.fresh (AX f.heap.objs.size);obtain⟨W,⟨m0,w0⟩,turn⟩:=h f.heap.objs.size hp;refine Ba (Jc S.nocell (by intro y hy;simp at hy) (λh₁ hns₁ hsb₁=>?_) S.kind);have I3:Inv X a σ (upd F f.heap.objs.size (.lst [])) {f with heap:=f.heap.push {cls:=.type "list",dict:=AE,data:=.seq ([]:List AF).toArray}}:=
  I2.laid (t':=f.toks) (λb u e=>AN _ e) (AX _) ⟨BU _,[],0,.nil,Ar _ rfl⟩
 have R:∀b∈l,b<f.heap.objs.size:=λb hb=>by
  obtain⟨o,e,_⟩:=T.obj _ _ st2 b hb;exact Aq e
 have f3:∀b∈l,C2 X a (upd F f.heap.objs.size (.lst [])) b:=λb hb=>by
  obtain⟨q0,q⟩:=f2 b hb;exact⟨by rw[f9 (BI (R b hb))];exact q0,q⟩
 generalize hH3:(f.heap.push {cls:=.type "list",dict:=AE,data:=.seq ([]:List AF).toArray}:Au)=g3 at I3 hns₁ hsb₁ ⊢;have hsz:g3.objs.size=f.heap.objs.size+1:=by rw[<-hH3,GY]
 have Q:∀b∈l,b<g3.objs.size:=λb hb=>by rw[hsz];exact EY (R b hb)
 have k3:∀b o,g3.get? b=AA o->h₁.get? b=AA o:=λb o e=>hsb₁.extBut b o (BI (Aq e)) (AN _ e);have st3:U 0 g3:=T.keep _ _ _ st2 λb _ o e=>by rw[<-hH3];exact AN _ e
 have st4:U 0 h₁:=T.keep _ _ _ st3 λb _ o e=>k3 b o e;have I4:Inv (X.comp scope Nc g3.objs.size l a {f with heap:=g3} (upd F f.heap.objs.size (.lst []))) [] (L6 fr k σ) (upd F f.heap.objs.size (.lst [])) {f with heap:=h₁,toks:=f.toks+([]:List (Str×AF)).length}:=
  bs0 (s:={f with heap:=g3}) S I3 (AX _) f3 Q k3 hns₁
 generalize j:X.comp scope Nc g3.objs.size l a {f with heap:=g3} (upd F f.heap.objs.size (.lst []))=Xc at I4;have eA:Xc.A=X.A:=by rw[<-j];rfl
 have eP:Xc.prog=X.prog:=by rw[<-j];rfl
 have ew:Xc.w=X.w:=by rw[<-j];rfl
 have eK:Xc.K=X.K:=by rw[<-j];rfl
 have ec:Xc.calm=AC:=by rw[<-j];exact hc
 have ee:Xc.env=Lr scope (w8 X.env.cells scope.names []) g3.objs.size X.env:=by rw[<-j];rfl
 have ex:Xc.xe=λ_ _=>False:=by rw[<-j];rfl
 have T':Turn Xc.prog Xc.w Xc.K tg J l it U:=by rw[eP,ew,eK];exact T
 have I:∀{B:Hp},(∀b∈l,B b=AE)->∀b∈l,C2 Xc [] B b:=λhn b hb=>by
  obtain⟨q0,q1,q2,q3,q4,q5⟩:=f3 b hb;subst j;refine⟨hn b hb,BI (Q b hb),λz=>?_,.inl hb,λx c e=>q4 x c (O6 e).1,λp hp=>q5 p ?_⟩
  ·rcases AR.mp (I3.stkSub b z)with e|e
   ·exact q1 e
   ·exact q2 e
  ·have:p∈(X.pn++a)++[]:=hp;simpa using this
 have P:∀t:AJ,t={f with heap:=h₁,toks:=f.toks+([]:List (Str×AF)).length} ->
   Dz (model X.prog X.w) X.A (.compLoop (.ListComp elt [⟨tg,iter,ifs,0⟩] scope pos) 0 (.ref it) (.ref f.heap.objs.size) (Lr scope (w8 X.env.cells scope.names []) g3.objs.size X.env)) (RR (.ref f.heap.objs.size) g3.objs.size) t:=by
  rintro t rfl;rw[<-ee,<-eA,<-eP,<-ew];refine bn9 (λn s'=>∃i r B,Inv Xc [] r B s'/\U i s'.heap/\(∀b∈l,B b=AE)/\W i n r B) ?_ m0 ⟨0,_,_,I4,st4,λb hb=>(f3 b hb).1,w0⟩;rintro n s5 ⟨i,σ5,H5,I5,st5,fr5,w5⟩
  rcases turn i n σ5 H5 w5 with⟨stop,qn⟩|⟨go,N,hN,step⟩
  ·refine thn (T'.done Xc rfl rfl rfl ec i [] s5 σ5 H5 _ I5 (I fr5) st5 stop) λr s6⟨hr,I6⟩=>?_;subst hr;subst j;obtain⟨O,hm,_⟩:=id I6.loc;exact hRR _ _ H5 s6 _ _ O I3 (AX _) (bt4 I3 f3 I6) I6.free hm qn
  ·refine thn (T'.item Xc rfl rfl rfl ec i [] s5 σ5 H5 _ I5 (I fr5) st5 go) λr s6⟨u,hr,h6⟩=>?_;subst hr;refine thn h6 λ_ s7 z32=>?_;obtain⟨x,H7,I7,r7,y7,Y,fr7⟩:=z32;have I7':=I7.pinned (I fr7) (T.obj _ _ Y);have hgX:PG Xc tg g:=by rw[<-j];exact hg _ _ _ _ _
   have htX:PCs Xc ifs tc:=by rw[<-j];exact ht _ _ _ _ _
   have heX:PE Xc elt te:=by rw[<-j];exact he _ _ _ _ _
   have L:∀{s9:AJ}{G:St}{Z:Hp},Inv Xc ([]++Z9 l s7.heap) G Z s9->N G Z->∃m,m<n/\∃i r B,Inv Xc [] r B s9/\U i s9.heap/\(∀b∈l,B b=AE)/\W i m r B:=λ{s9 G Z}I9 n9=>by
    obtain⟨O,hm,w9⟩:=hN G Z n9;refine⟨O,hm,i+1,G,Z,I9.unpinned,T.keep _ _ _ Y λb hb o e=>(I9.pin (b,o) (BK _ (BK _ (ae7 hb e)))).1,λb hb=>?_,w9⟩;obtain⟨o,e,d⟩:=T.obj _ _ Y b hb;exact(I9.pin (b,o) (BK _ (BK _ (ae7 hb e)))).2.1
   have hgw:=hgX _ s7 σ5 H7 x u _ I7' r7 (step x H7 y7);rw[ex]at hgw;refine thn hgw λ_ s8 z33=>?_;obtain⟨M,H8,I8,q8⟩:=z33;have htw:=htX _ s8 M H8 _ I8 q8;rw[ex]at htw;refine thn htw λok s9⟨Z,I9,q9⟩=>?_;cases ok with
   |false=>
    rw[if_neg AH]at q9 ⊢;exact L I9 q9
   |true=>
    rw[if_pos rfl]at q9 ⊢;have hew:=heX _ s9 M Z _ I9 q9;rw[ex]at hew;refine thn hew λxv s10 z34=>?_;obtain⟨v,H10,I10,r10,ys,hys,hlen,n10⟩:=z34;have hap:=a53 (X:=Xc) _ s10 M H10 (.ref f.heap.objs.size) [v] (.ref f.heap.objs.size) [xv] (λ_ H11=>N M H11) I10 rfl (.cons r10 .nil) ⟨_,ys,v,rfl,rfl,hys,hlen,n10⟩;rw[ex]at hap;exact thn hap λ_ s11⟨_,H11,I11,_,n11⟩=>L I11 n11
 exact codeAny_compStart_list (P _ rfl) (T.self _ 0 _ _ _ st4 (P _ rfl))
def ay6(S:CompScope X scope Nc fr k)(I:Inv X pins σ H s):∀x∈scope.names,x.2=.free->(X.env.cells.lookup x.1).isSome=AC:=λx hx hf=>by
 obtain⟨c,e⟩:=I.ok.has x.1 (S.frees x hx hf);rw[e];rfl
def ca8(p:X.calm=AC)(S:CompScope X scope Nc fr k)(hi:PI X tg iter wi)(n:∀C b a s H,PG (X.comp scope Nc C b a s H) tg g)(j:∀C b a s H,PCs (X.comp scope Nc C b a s H) ifs tc)(o:∀C b a s H,PE (X.comp scope Nc C b a s H) elt te)
  (l:∀x,Dd iter X.env x=pure x:=by intro _;rfl):PE X (.ListComp elt [⟨tg,iter,ifs,0⟩] scope pos) (λσ H Q=>ar3 fr k wi g tc te Q σ H):=by
 intro a s σ H Q I h;rw[eval_ListComp];refine Ih (use:=AE) (cl:=w8 X.env.cells scope.names []) rfl l (am7 (ay6 S I)) S.kind S.names ?_;refine thn (hi a s σ H _ I h) λxv s1 h1=>thn h1 λitv s2 h2=>?_;obtain⟨F,b,B,J,K,e,v,T,d,t,h⟩:=h2;subst e;refine ax5 (RR:=λacc C=>compPost (model X.prog X.w) X.A X.xe AE (EP X a σ Q) acc C) p S n j o v T d t h ?_;intro D C z s' E G i u r y m f q;exact⟨i,f,λh' sb=>⟨.ref D,z,ay0 u r y m sb,rfl,q⟩⟩
def bq3{i:Nat}{y:Str}{py b:Pos}(hc:X.calm=AC)(hN:X.N.Nodup)(E:X.N[i]?=AA y)(R:Loc X.env.scope y)(F:X.fn y=AC\/X.env.scope.names.lookup y=AA .local)
  (S:CompScope X scope Nc fr k) (hi:PI X tg iter wi) (Y:∀C f a s H,PG (X.comp scope Nc C f a s H) tg g) (U:∀C f a s H,PCs (X.comp scope Nc C f a s H) ifs tc) (Z:∀C f a s H,PE (X.comp scope Nc C f a s H) elt te)
  (t:Cp (.ListComp elt [⟨tg,iter,ifs,0⟩] scope pos) (AA (.Name y py)) b.line X.env=pure AC)
  (V:∀x,Dd iter X.env x=pure x:=by intro _;rfl):PS X (.Assign [.Name y py] (.ListComp elt [⟨tg,iter,ifs,0⟩] scope pos) b) (λD d H=>ar3 fr k wi g tc te (λv j=>D.nx (d.set i (AA v)) j) d H):=by
 intro a s d H D I h;rw[exec_Assign_Name_used _ _ _ _ t];refine AD (Ib (AD ?_));show AQ _ X.A (do let _ <-comprehension (.ListComp elt [⟨tg,iter,ifs,0⟩] scope pos) scope X.env _ (newList []) AG (eval iter X.env) (AA (assign (.Name y py) X.env))) _ _ s;refine AD (BJ (Ih (use:=AA (assign (.Name y py) X.env)) (cl:=w8 X.env.cells scope.names []) (Q:=λ_ s'=>SP X a D .next s') rfl V (am7 (ay6 S I)) S.kind S.names ?_) (λ_ s' hq=>AL (AL hq)) λ_ _ e=>e);refine thn (hi a s d H _ I h) λxv s1 h1=>thn h1 λitv s2 h2=>?_;obtain⟨it,f,tn,J,H2,e,I2,T,n,f2,h⟩:=h2;subst e;refine ax5 (RR:=λacc C=>compPost (model X.prog X.w) X.A X.xe (AA (assign (.Name y py) X.env)) (λ_ s'=>SP X a D .next s') acc C) (fin:=λv j=>D.nx (d.set i (AA v)) j) hc S Y U Z I2 T n f2 h ?_;intro O C j s' s3 H3 P K G M W B q;show AQ _ X.A (assign (.Name y py) X.env (.ref O)) _ _ s';obtain⟨m,es,ep,u,l,c⟩:=id B;have r:C≠X.env.locals:=λz=>absurd (Ah K.lt G) (by rw[z];exact DJ _);have o:C∉X.fs:=K.nofs G;have L:Inv X (a++[(C,m)]) d j s':=M.pins_of λp hp=>by
  rcases Bf.mp hp with z|z
  ·exact M.pin p (BK _ z)
  ·have e:p=(C,m):=by simpa using z
   subst e;exact⟨u,W,r,o,λv z=>by rw[l]at z;cases z⟩
 refine KY (V4 L hN E R (v:=.ref O) rfl (λs'' J''=>?_) F);obtain⟨p1,p2,_⟩:=J''.pin (C,m) ∎;refine⟨P,⟨m,es,ep,p1,l,c⟩,λh' sb=>⟨_,j,ay0 K G J''.unpinned p2 sb,q⟩⟩
end
end L2
namespace PySem
section
variable {prog:AZ} {w:At} {A:BG} {E:AF->AJ->Prop} {s:AJ}
def av5{it l}{i}{items}{x}{Q}(a:s.heap.IsTupleIter it l i)
  (g:s.heap.IsTuple l items) (f:items[i]?=AA x)
  (j:∀h',h'.IsTupleIter it l (i+1)->BB it s.heap h'->Q x {s with heap:=h'}) :
  AQ (model prog w) A (Bb (.ref it)) Q E s:=by
 obtain⟨o,c,h,b⟩:=id a;obtain⟨k,d,_,m,e⟩:=g;refine AD (BN a.typeIs Cz
  (BL Cz a.typeIs Hg ?_ (HX _)))
 show AQ _ _ (field (.ref it) 0 >>= _) _ _ s;refine AD (Ay c b rfl ?_);refine AD (Ay c b rfl ?_);refine AD (Eg d e ?_);simp only [EZ,f];exact AD (CW c b ∎ (AL ⟨x,rfl,AL (j _ ⟨_,By _ c (Bw (Bc b _)),(Gf ..).trans h,by
  rw[Bc b];simp[Bt]⟩ (Cc ..))⟩))
def av6{c l:AI}{i:Nat}{items}{Q:AF->AJ->Prop}(j:A.handled=AE)
  (b:s.heap.IsTupleIter c l i) (n:s.heap.IsTuple l items) (k:items[i]?=AE)
  (p:∀h' e,FU c s.heap h'->(∃o,h'.get? e=AA o/\o.cls=.type "StopIteration")->E (.ref e) {s with heap:=h'}) :
  AQ (model prog w) A (Bb (.ref c)) Q E s:=by
 obtain⟨o,f,t,h⟩:=id b;obtain⟨q,d,_,r,g⟩:=n;refine AD (BN (name:=Ab "__next__") b.typeIs Cz
  (BL Cz b.typeIs Hg ?_ (HX _)))
 show AQ _ _ (field (.ref c) 0>>=_) _ _ s;refine AD (Ay f h (x:=.ref l) rfl ?_);refine AD (Ay f h (x:=.int i 0) rfl ?_);refine AD (Eg d g ?_);simp only[EZ,k];refine AD (Ef (AD (CW f h ∎ ?_)));refine AD ?_;refine AD (m:=GT _ _) (GU (a:=BX) (by first|rfl|(rfl)) ?_);refine Ba ?_ (by size_fits);refine AD (wpAny_handled ?_)
 first|rw[show A.in1.handled=AE from j]|rw[j]
 refine AD (AL (wpAny_throw ?_));exact p _ _ (((Cc ..).extBut.push _).push _) ⟨_,Ar _ rfl,rfl⟩
end
def Draws.tuple{prog}{w}{A}(c:A.handled=AE)it l(b:l≠it)items:
  Draws prog w A it [it,l] items.size (λi v=>items[i]?=AA v) λi h=>h.IsTupleIter it l i/\h.IsTuple l items where
 live:=λ_ _ st=>let⟨o,a,_⟩:=st.1;⟨o,a⟩
 frame:=λ_ _ _ st hk=>⟨st.1.at λo=>hk it ∎ o,let⟨o,a,r⟩:=st.2;⟨o,hk l ∎ o a,r⟩⟩
 item:=λi s Q E hi st hQ=>(av5 st.1 st.2 (x:=items[i]) (by simp[]) λh' hit' hs'=>hQ _ h' s.toks (by simp[]) ⟨hit',st.2.extBut hs'.extBut b⟩ hs')
 done:=λs Q E st=>av6 c st.1 st.2 ∎
open AutoSeq1 (wpAny_loadPart') in
def bm2(l:AI)(items:Array AF)(n:Nat)(dct:Option AI)(sl:Array (Option AF)):
  Meets (CT.«enumerate.__new__» ⟨[.type "enumerate",.ref l],[]⟩) (λ_ R s=>s.heap.get? l=AA {cls:=.type "tuple",dict:=dct,data:=.seq items n,slots:=sl} /\
   R (.ok (.ret (.ref (s.heap.push {cls:=.type "tuple_iterator",data:=.fields #[.ref l,.int 0 0]}).objs.size)))
    {s with heap:=(s.heap.push {cls:=.type "tuple_iterator",data:=.fields #[.ref l,.int 0 0]}).push {cls:=.type "enumerate",data:=.fields #[.none,.bool AG,.ref s.heap.objs.size,Bt 0,.none,.none]}}):=
 .of_wp λprog w A R s h=>by
  obtain⟨hp,g,d,tk,os⟩:=s;obtain⟨hl,h⟩:=h;have hsub:=sub_enumerate;have hL:Heap.IsTuple (Shared.heap ⟨hp,g,d,tk,os⟩) l items:=⟨_,hl,rfl,n,rfl⟩
  wp_walk using Fm hl
  refine wpAny_stack_any λst=>AL ?_
  split
  ·rename_i c _ _ _ _ _;cases(c==Fv "enumerate")
   ·wp_walk using Fm hl,Em hL
    exact⟨_,rfl,h⟩
   ·wp_walk using Fm hl,Em hL
    exact⟨_,rfl,h⟩
  ·wp_walk using Fm hl,Em hL
   exact⟨_,rfl,h⟩
section
variable {prog:AZ} {w:At} {A:BG} {E:AF->AJ->Prop} {s:AJ}
def av7{l}{items}{Q}(k:s.heap.IsTuple l items)
  (h:∀h',Lx h' (s.heap.objs.size+1) s.heap.objs.size 0 .none->h'.IsTupleIter s.heap.objs.size l 0->h'.objs.size=s.heap.objs.size+2 ->
   (∀b o,s.heap.get? b=AA o->h'.get? b=AA o)->Q (.ref (s.heap.objs.size+1)) {s with heap:=h'}) :
  AQ (model prog w) A (call (.type "enumerate") [.ref l]) Q E s:=by
 obtain⟨⟨c,d,m,f⟩,g,j,n,i⟩:=k;subst j i;refine callType_new F.called_enumerate ∅ (F.typeCall_enumerate_1 _) (F.newCall_enumerate_1 _) (λobj=>JK obj _) F.entry_enumerate_new
  (bm2 l items n d f) ⟨g,?_⟩
 have a:(s.heap.push {cls:=.type "tuple_iterator",data:=.fields #[.ref l,.int 0 0]}).objs.size=s.heap.objs.size+1:=GY ..;rw[a];have e:=by
  have:=Ar (s.heap.push {cls:=.type "tuple_iterator",data:=.fields #[.ref l,.int 0 0]})
   (o:={cls:=.type "enumerate",data:=.fields #[.none,.bool AG,.ref s.heap.objs.size,Bt 0,.none,.none]}) rfl
  rwa[a]at this
 refine⟨⟨_,e,rfl⟩,h _ e ⟨_,AN _ (Ar _ rfl),rfl,rfl⟩ (by rw[GY,a]) λb o x=>AN _ (AN _ x)⟩
end
end PySem
namespace L2
open PySem PySem.Spec PyProof.Rows
variable{pins:List (AI×Obj)}{σ:St}{elts:List AS}{k0:Nat}{tp:Pos}
section
variable {X:Cx} {H:Hp} {s:AJ} {h':Au}
def Inv.turnedNew{t':Nat}{ch:List AI}{o:HO}(I:Inv X pins σ H s)(a:∀b∈ch,C2 X pins H b)(k:∀b u,b∉ch->s.heap.get? b=AA u->h'.get? b=AA u)(C:∀b∈ch,∃u,h'.get? b=AA u)
  (h:l8 X.prog X.w (upd H s.heap.objs.size o) h' s.heap.objs.size o):Inv X pins σ (upd H s.heap.objs.size o) {s with heap:=h',toks:=t'}:=by
 have f:H s.heap.objs.size=AE:=I.hok.fresh (AX _);have i:∀b u,s.heap.get? b=AA u->b≠s.heap.objs.size:=λb u e=>BI (Aq e);have d:∀b u,H b=AA u->b∉ch:=λb u e z=>by rw[(a b z).1]at e;cases e
 refine I.step (g':=s.gens) (d':=s.drawn) (ch:=ch) (λb g=>?_) (λb u _ _ hc e _=>k b u hc e) (λb u _ _ hc e _=>⟨u.slots,k b u hc e⟩) (λb u _ e n=>by rw[f9 (i b u e)];exact n)
  (λb u hc e=>⟨u,k b u hc e⟩) (λb xs e=>by rw[f9 (o7 e f)];exact e) (λb u v e=>by rw[f9 (o7 e f)];exact e) (λb ps e=>⟨#[],by rw[f9 (o7 e f),e];simp⟩) (λm hm=>?_) (λb u e=>?_) I.bare
 ·obtain⟨B,t,A,p,m,l⟩:=a b g;exact⟨p,t,m,l⟩
 ·obtain⟨ob,x,y,j,r⟩:=hm;exact⟨ob,x,y,k _ ob (λz=>(a _ z).2.1 rfl) j,r⟩
 ·by_cases g:b=s.heap.objs.size
  ·subst g;rw[o0]at e;cases e;exact h
  ·rw[f9 g]at e;refine(I.hok b u e).stay (λc v hc q=>k c v ?_ q) (λc q=>by rw[f9 (o7 q f)];exact q) λc xs q=>by rw[f9 (o7 q f)];exact q
   rcases hc with z|z
   ·rw[z];exact d b u e
   ·exact d c _ z
def Inv.turnedAll{t'}{ch:List AI}(I:Inv X pins σ H s)(a:∀b∈ch,C2 X pins H b)(k:∀b u,b∉ch->s.heap.get? b=AA u->h'.get? b=AA u):Inv X pins σ H {s with heap:=h',toks:=t'}:=by
 have d:∀b u,H b=AA u->b∉ch:=λb u e z=>by rw[(a b z).1]at e;cases e
 refine I.step (λb hb=>?_) (λb u _ _ hc e _=>k b u hc e) (λb u _ _ hc e _=>⟨u.slots,k b u hc e⟩) (λb u _ e n=>n)
  (λb u hc e=>⟨u,k b u hc e⟩) (λb xs e=>e) (λb u v e=>e) (λb ps e=>⟨#[],by rw[e];simp⟩) (λm hm=>?_) (λb u e=>?_) I.bare
 ·obtain⟨p,j,o,i,h,g⟩:=a b hb;exact⟨i,j,h,g⟩
 ·obtain⟨ob,l,m,f,r⟩:=hm;exact⟨ob,l,m,k _ ob (λz=>(a _ z).2.1 rfl) f,r⟩
 ·refine(I.hok b u e).stay (λc v hc=>k c v ?_) (λc q=>q) λc xs q=>q
  rcases hc with z|z
  ·rw[z];exact d b u e
  ·exact d c _ z
end
abbrev Ite(K:AM)(sq:Hp->List V->Prop):It:=
 ⟨λi H=>∃xs x,sq H xs/\xs[i]?=AA x,λi H x H'=>∃t v,H t=AE/\x=.ref t/\H'=upd H t (.tup [.int i,v])/\∀xs,sq H xs->xs[i]?=AA v,λi H=>∃xs,sq H xs/\xs.length=i⟩
def a51{P:AZ}{w:At}{K:AM}{sq:Hp->List V->Prop}{e c:AI}{pit:Nat->Au->Prop}{bad:AI->Prop}
  (G:e≠c) (k:∀i h,pit i h->∃o,h.get? c=AA o/\∀v,o.data≠.cell v) (l:∀i h h',pit i h->(∀o,h.get? c=AA o->h'.get? c=AA o)->pit i h')
  (dr:∀(X:Cx),X.prog=P->X.w=w->X.K=K->X.calm=AC->∀(i:Nat)(a:List (AI×Obj))(s:AJ)(n:St)(H:Hp)(g:List V),Inv X a n H s->C2 X a H e->C2 X a H c->pit i s.heap->(∃d,Lx s.heap e c i d)->sq H g ->
   ∃(f:List AF)(Y:List AI)(Z:Nat->AF->Prop)(St:Nat->Au->Prop),g9 g f/\g.length<=sizeLine/\Draws P w X.A.in1 c Y f.length Z St/\e∉Y/\St i s.heap/\(∀j v,Z j v->f[j]?=AA v)/\∀j h,St j h->pit j h)
  (inj:∀(X:Cx)(a:List (AI×Obj))(s:AJ)(n:St)(H:Hp)(g ys:List V),X.K=K->Inv X a n H s->sq H g->sq H ys->g=ys) :
  Turn P w K (.Tuple elts k0 tp) (Ite K sq) [e,c] e (λi h=>(∃d,Lx h e c i d)/\pit i h) where
 mem:=by simp
 obj:=λi h st b hb=>by
  rcases AR.mp hb with z|z
  ·subst z;obtain⟨⟨d,m⟩,_⟩:=st;exact⟨_,m,λv z=>by cases z⟩
  ·have C:b=c:=by simpa using z
   subst C;exact k i h st.2
 keep:=λi h h' st S=>by
  obtain⟨⟨d,m⟩,U⟩:=st;exact⟨⟨d,S e ∎ _ m⟩,l i h h' U λo q=>S c ∎ o q⟩
 item:=by
  intro X hP hw W hc i a s n H E I t st hg;obtain⟨g,x,T,F⟩:=hg;obtain⟨f,Y,Z,St,R,hz,D,J,p,M,L⟩:=dr X hP hw W hc i a s n H g I (t e ∎) (t c ∎) st.2 st.1 T;obtain⟨⟨d,m⟩,U⟩:=st;have hi:i<f.length:=by
   rw[<-R.length];exact(AT.mp F).1
  refine wpAny_pyNext_enum_itemD D m p hi G J λy h1 tk hPy ho hst' hT hsz hk=>?_;obtain⟨u,hu,ru⟩:=R.get F;have ey:y=u:=by
   have q:=M i y hPy;rw[hu]at q;exact(BA q).symm
  subst ey;refine⟨_,rfl,?_⟩;have hT':H s.heap.objs.size=AE:=I.hok.fresh (AX _);have O:e<s.heap.objs.size:=Aq m;refine wpAny_letOwnedTupleGo_enum ho λh2 he2 hs2=>?_;have q2:BB e h1 h2:=hs2;have S:∀b u,b∉[e,c]->s.heap.get? b=AA u->h2.get? b=AA u:=λb u hb q=>by
   have N:b≠e:=λz=>hb (by simp[z]);have h2':b≠c:=λz=>hb (by simp[z]);exact(q2.2 b N).trans (hk b u N h2' q)
  have hT2:h2.get? s.heap.objs.size=AA {cls:=.type "tuple",data:=.seq #[.int i tk,y]}:=(q2.2 _ (GO O)).trans hT;have r:pit (i+1) h2:=l _ _ _ (L _ _ hst') λo q=>(q2.2 c (Ao G)).trans q;have I1:Inv X a n (upd H s.heap.objs.size (.tup [.int i,x])) {s with heap:=h2,toks:=tk+1}:=by
   refine I.turnedNew (ch:=[e,c]) t S (λb hb=>?_) ?_
   ·rcases AR.mp hb with z|z
    ·exact⟨_,by rw[z];exact he2⟩
    ·have C:b=c:=by simpa using z
     subst C;obtain⟨o,q,_⟩:=k _ _ r;exact⟨o,q⟩
   ·exact⟨by show 2<=sizeLine;decide,[.int i tk,y],.cons ⟨_,rfl⟩ (.cons ru .nil),⟨_,hT2,rfl,rfl,_,rfl⟩⟩
  refine⟨.ref s.heap.objs.size,_,I1,rfl,⟨s.heap.objs.size,x,hT',rfl,rfl,λys hy=>by rw[inj X a s n H ys g W I hy T];exact F⟩,⟨⟨_,by have:=he2;simpa using this⟩,r⟩,λb hb=>?_⟩;have nb:b≠s.heap.objs.size:=by
   rcases AR.mp hb with z|z
   ·rw[z];exact BI O
   ·have C:b=c:=by simpa using z
    subst C;obtain⟨o,q,_⟩:=k _ _ U;exact BI (Aq q)
  rw[f9 nb];exact(t b hb).1
 done:=by
  intro X hP hw W hc i a s n H E I t st hg;obtain⟨g,T,F⟩:=hg;obtain⟨f,Y,Z,St,R,hz,D,J,p,M,L⟩:=dr X hP hw W hc i a s n H g I (t e ∎) (t c ∎) st.2 st.1 T;obtain⟨⟨d,m⟩,U⟩:=st;have hi:i=f.length:=by rw[<-R.length];exact F.symm
  rw[hi]at p;refine wpAny_pyNext_enum_endD D m p λh1 eb=>⟨rfl,?_⟩;exact I.turnedAll (t':=s.toks) (ch:=[e,c]) t λb u hb q=>eb b u (λz=>hb (by simp[z])) q
 self:=λA i s Q E st h=>by
  obtain⟨⟨d,m⟩,_⟩:=st;exact Ez m h
def ah0{h:Au}{a b:AI}{o u}(e:h.get? a=AA o)(c:h.get? b=AA u)(d:o.cls≠u.cls):a≠b:=λz=>by
 grind
section
variable {X:Cx}
def av9:BF "enumerate"=AA (.type "enumerate"):=rfl
def aw1:BF "reversed"=AA (.type "reversed"):=rfl
def b09{n:Hp}{a:AJ}{R:It->Hp->Prop}{l:AI}{f:List V}{E:AF->AJ->Prop}(u:Inv X c p n a)(t:SqL X.K n l f)(q:R (Ite X.K λH f=>SqL X.K H l f) n):
  AQ (model X.prog X.w) X.A (call (.type "enumerate") [.ref l]) (λv s=>AQ (model X.prog X.w) X.A (JB v) (PIE X c p (.Tuple elts k0 tp) R) E s) E a:=by
 obtain⟨d,C,r,F⟩:=u.list t;refine call_enumerate_list r.isList λh' g e hsz kk=>Ez g ?_;have U:Inv X c p n {a with heap:=h'}:=u.kept (t':=a.toks) kk;have k:∀b∈[a.heap.objs.size+1,a.heap.objs.size],a.heap.objs.size<=b:=λb hb=>by
  rcases AR.mp hb with z|z
  ·rw[z];exact Hr _
  ·have N:b=a.heap.objs.size:=by simpa using z
   rw[N];exact AX _
 refine⟨a.heap.objs.size+1,[a.heap.objs.size+1,a.heap.objs.size],_,_,n,rfl,U,a51 (sq:=λH f=>SqL X.K H l f) (pit:=λi h=>h.IsListIter a.heap.objs.size l i) (bad:=λ_=>True) (Fa _) ?_ ?_ ?_ ?_,⟨⟨_,by simpa using g⟩,e⟩,λb hb=>u.fpOk (k b hb) (u.hok.fresh (k b hb)),q⟩
 ·rintro i h ⟨o,ho,J,hd⟩;exact⟨o,ho,λv z=>by rw[hd]at z;cases z⟩
 ·exact λi h h' st kk=>st.at kk
 ·intro Y hP hw B J i c s p H f I f1 f2 e g t;rw[<-B]at t;obtain⟨d,C,r,F⟩:=I.list t;obtain⟨O,g⟩:=g;obtain⟨oi,x,y,T⟩:=id e;obtain⟨Z,nl,j,m,G,S⟩:=id r;have Q:l≠a.heap.objs.size:=ah0 j x (by rw[m,y];decide);have P:a.heap.objs.size+1≠l:=ah0 g j (by rw[m];show Fv "enumerate"≠_;decide);refine⟨d,[a.heap.objs.size,l],(λi v=>d.toArray[i]?=AA v),(λi h=>h.IsListIter a.heap.objs.size l i/\h.IsList l d.toArray),C,F,?_,?_,⟨e,r.isList⟩,λj v z=>by simpa using z,λj h z=>z.1⟩
  ·have D:=Draws.list (prog:=X.prog) (w:=X.w) (A:=Y.A.in1) (by exact I.ok.hd J) a.heap.objs.size l Q d.toArray;simpa using D
  ·intro z
   rcases AR.mp z with z|z
   ·exact Fa _ z
   ·exact P (by simpa using z)
 ·intro Y c s p H f W B I M L;rw[<-B]at M L;exact I.list_inj M L
def b05{n:Hp}{a:AJ}{R:It->Hp->Prop}{l:AI}{f:List V}{E:AF->AJ->Prop}(u:Inv X c p n a)(t:SqT X.K n l f)(q:R (Ite X.K λH f=>SqT X.K H l f) n):
  AQ (model X.prog X.w) X.A (call (.type "enumerate") [.ref l]) (λv s=>AQ (model X.prog X.w) X.A (JB v) (PIE X c p (.Tuple elts k0 tp) R) E s) E a:=by
 obtain⟨d,C,r,F⟩:=u.tuple t;refine av7 (show a.heap.IsTuple l d.toArray from r) λh' g e hsz kk=>Ez g ?_;have T:Inv X c p n {a with heap:=h'}:=u.kept (t':=a.toks) kk;have k:∀b∈[a.heap.objs.size+1,a.heap.objs.size],a.heap.objs.size<=b:=λb hb=>by
  rcases AR.mp hb with z|z
  ·rw[z];exact Hr _
  ·have M:b=a.heap.objs.size:=by simpa using z
   rw[M];exact AX _
 refine⟨a.heap.objs.size+1,[a.heap.objs.size+1,a.heap.objs.size],_,_,n,rfl,T,a51 (sq:=λH f=>SqT X.K H l f) (pit:=λi h=>h.IsTupleIter a.heap.objs.size l i) (bad:=λ_=>True) (Fa _) ?_ ?_ ?_ ?_,⟨⟨_,by simpa using g⟩,e⟩,λb hb=>u.fpOk (k b hb) (u.hok.fresh (k b hb)),q⟩
 ·rintro i h ⟨o,ho,G,hd⟩;exact⟨o,ho,λv z=>by rw[hd]at z;cases z⟩
 ·exact λi h h' st kk=>st.at kk
 ·intro Y hP hw B G i c s p H f I f1 f2 e g t;rw[<-B]at t;obtain⟨d,C,r,F⟩:=I.tuple t;obtain⟨N,g⟩:=g;obtain⟨Z,x,y,S⟩:=id e;obtain⟨W,j,m,nl,Q⟩:=id r;have P:l≠a.heap.objs.size:=ah0 j x (by rw[m,y];decide);have O:a.heap.objs.size+1≠l:=ah0 g j (by rw[m];show Fv "enumerate"≠_;decide);refine⟨d,[a.heap.objs.size,l],(λi v=>d.toArray[i]?=AA v),(λi h=>h.IsTupleIter a.heap.objs.size l i/\h.IsTuple l d.toArray),C,F,?_,?_,⟨e,r⟩,λj v z=>by simpa using z,λj h z=>z.1⟩
  ·have D:=Draws.tuple (prog:=X.prog) (w:=X.w) (A:=Y.A.in1) (by exact I.ok.hd G) a.heap.objs.size l P d.toArray;simpa using D
  ·intro z
   rcases AR.mp z with z|z
   ·exact Fa _ z
   ·exact O (by simpa using z)
 ·intro Y c s p H f U B I L J;rw[<-B]at L J;exact I.tuple_inj L J
abbrev Itv(K:AM)(a:AI)(n:Nat):It:=
 ⟨λi H=>(∃xs,SqL K H a xs/\xs.length=n)/\i<n,λi H x H'=>H'=H/\∀xs,SqL K H a xs->xs[n-1-i]?=AA x,λi H=>(∃xs,SqL K H a xs/\xs.length=n)/\i=n⟩
def by1{P:AZ}{w:At}{K:AM}{L:AS}(a g:AI)(n:Nat):Turn P w K L (Itv K a n) [g] g (λi h=>h.IsRevIter g a ((n:Int)-1-(i:Int))) where
 mem:=by simp
 obj:=λi h st b hb=>by
  have e:b=g:=by simpa using hb
  subst e;obtain⟨o,e,c,d⟩:=st;exact⟨o,e,λv z=>by rw[d]at z;cases z⟩
 keep:=λi h h' st k=>st.at λo e=>k g ∎ o e
 item:=by
  intro X G C J F i f s A H E I l st m;subst G C J;obtain⟨⟨j,D,R⟩,hi⟩:=m;subst R;obtain⟨O,M,p,W⟩:=I.list D;obtain⟨x,B⟩:∃x,j[j.length-1-i]?=AA x:=⟨_,AO ⋯⟩;obtain⟨u,Q,N⟩:=M.get B;obtain⟨y,v,S,t,r,q⟩:=l g ∎;have e:(j.length:Int)-1-(i:Int)=((j.length-1-i:Nat):Int):=by lia
  rw[e]at st;refine wpAny_pyNext_rev_item st p.isList (x:=u) (by simpa using Q) λh' st' sb=>?_;have V:Inv X f A H {s with heap:=h'}:=I.turned (t':=s.toks) (λb o hb e=>(sb.2 b hb).trans e) y v t r q;obtain⟨o,U,c,d⟩:=id st';have T:((j.length-1-i:Nat):Int)-1=(j.length:Int)-1-((i+1:Nat):Int):=by lia
  rw[T]at st';exact⟨u,rfl,ab3 (s:={s with heap:=h'}) U c d ∅ ⟨x,H,V,N,⟨rfl,λys hy=>by rw[I.list_inj hy D];exact B⟩,st',λb hb=>(l b hb).1⟩⟩
 done:=by
  intro X G C J F i f s A H E I l st m;obtain⟨_,hi⟩:=m;obtain⟨y,v,S,t,r,q⟩:=l g ∎;have e:(n:Int)-1-(i:Int)=-1:=by lia
  rw[e]at st;exact wpAny_pyNext_rev_end (I.ok.hd F) st λh' eb=>⟨rfl,I.turned (t':=s.toks) (λb o hb e=>eb b o hb e) y v t r q⟩
 self:=λ_ _ _ _ _ st h=>Jd st h
abbrev c44(K:AM)(ta:TA):TI:=λσ H R=>ta σ H λvs H1=>∃a xs,vs=[.ref a]/\SqL K H1 a xs/\R (Itv K a xs.length) H1
def ce8{m a:AS}{j:TA}{p pos:Pos}(A:Gl X "reversed")(z:X.mg "reversed"=AE)(B:PA X [a] j)(x:Aj [a] X.env=[(AG,eval a X.env)]:=by rfl):
  PI X m (.Call (.Name "reversed" p) [a] [] pos) (c44 X.K j):=by
 intro d s k H R I h;refine JX (L7 I A z aw1 (BH (thn (B pos d s k H _ I h) λus s1 z35=>?_) x rfl));obtain⟨vs,C,g,t,v⟩:=z35;obtain⟨l,i,e,y,q⟩:=v;subst e;obtain⟨u,rfl,r⟩:=t.one;cases r;obtain⟨c,n,w,D⟩:=g.list y;refine call_reversed_list w.isList ?_;have f:(s1.heap.push (revObj l ((c.toArray.size:Int)-1))).IsRevIter s1.heap.objs.size l ((i.length:Int)-1-((0:Nat):Int)):=by
  refine⟨_,Ar _ rfl,rfl,?_⟩;have e:((c.toArray.size:Nat):Int)-1=(i.length:Int)-1-((0:Nat):Int):=by rw[Ad,<-n.length];lia
  rw[e];rfl
 refine Jd (s:={s1 with heap:=s1.heap.push (revObj l ((c.toArray.size:Int)-1))}) f ?_;refine⟨s1.heap.objs.size,[s1.heap.objs.size],_,_,C,rfl,g.kept (t':=s1.toks) λb o e=>AN _ e,by1 l _ i.length,f,λb hb=>?_,q⟩;have e:b=s1.heap.objs.size:=by simpa using hb
 subst e;exact g.fpOk (AX _) (g.hok.fresh (AX _))
def bt2(m:X.calm=AC):G6 X (.builtin "sum") λxs H Q=>∃(p:AI)(ns:List Int),xs=[.ref p]/\SqL X.K H p (ns.map V.int)/\Q (.int ns.sum) H:=by
 intro c s o H xs us Q I r h;obtain⟨p,ns,rfl,k,q⟩:=h;obtain⟨u,rfl,i⟩:=r.one;cases i;obtain⟨b,g,j,t⟩:=I.list k;have hi:=bp6 g;have l:=hi.numsOf;obtain⟨e,d⟩:=hi.allInts.items;have a:=j.isList;rw[d]at a;refine PySem.sum_intListG (I.ok.hd m) a λh' tk t' hk=>?_;have n:ns=e.toList.map (·.1):=by
  rw[<-l,<-show b.toArray.toList=b from rfl,d,nums_intItems]
 rw[preSum_eq,Cv ∎];exact⟨.int ns.sum,H,I.kept hk,⟨t',by rw[n]⟩,q⟩
abbrev as5(i j:Int):Prop:=0<j/\j.natAbs.log2<9000
def b22:OpR X (ED .FloorDiv) (rI as5 λi j=>.int (i / j)):=opI λi j _ _ _ _ _ hc q=>by
 have a:(0:Int)<j:=hc.1;exact floordiv_int ⋯ (by rw[Int.fdiv_eq_ediv_of_nonneg i ⋯];exact q) (.inl (PyProof.noPylong_of_log2 hc.2))
abbrev c21(K:AM):R2:=λx y H Q=>∃a b xs ys,x=.ref a/\y=.ref b/\SqT K H a xs/\SqT K H b ys/\xs.length+ys.length<=sizeLine /\
 (xs=[]->Q (.ref b) H)/\(xs≠[]->ys=[]->Q (.ref a) H)/\(xs≠[]->ys≠[]->∀p,H p=AE->Q (.ref p) (upd H p (.tup (xs++ys))))
def b92:OpR X (ED .Add) (c21 X.K):=by
 intro c s A H x y v u Q I p o h;obtain⟨a,b,m,B,rfl,rfl,t,r,N,J,G,E⟩:=h
 by_cases f:m=[]
 ·subst f;cases p;cases o;obtain⟨M,D,p1,_⟩:=I.tuple t;obtain⟨d,S,p2,_⟩:=I.tuple r;cases D;obtain⟨⟨R,dd,w,C⟩,q,P,n,O⟩:=id p1;obtain⟨⟨z,k,l,g⟩,e,j,L,i⟩:=id p2;subst P O j i;exact JF ⟨_,q,rfl⟩ ⟨_,e,rfl⟩ HW Ie PySem.F.slot_tuple_add PySem.F.entry_tuple_add (PySem.F.args_tuple_add_2 _ _)
   (tuple_addW0 a b #[] d.toArray n L dd k C g ∎) ⟨q,e,.ref b,H,I,rfl,J rfl⟩
 ·exact cg3 c s A H _ _ v u Q I p o ⟨a,b,m,B,rfl,rfl,t,r,f,N,G f,E f⟩
end
end L2
namespace Ek
open PySem PySem.Spec PyProof.Rows L2
section
set_option genCtorIdx false
set_option genInjectivity false
variable{n:Nat}
inductive Tg where
 |n (i:Nat)|tup (is:List Nat)
mutual
inductive E where
 |non|bl (b:Bool)|int (i:Int)|str (x:Str)
 |v (i:Nat)
 |tup (es:Es)|lst (es:Es)
 |bin (o:FP) (a b:E)
 |neg (a:E)
 |cmp (o:EO) (a b:E)
 |isN (a:E)|notN (a:E)
 |and (a b:E)|or (a b:E)|not (a:E)
 |ite (c a b:E)
 |ix (a b:E)
 |sl (a lo hi:E)
 |slw (a lo hi:E)
 |dsel (ks:List Str) (vs:Es) (k:E)
 |gsel (g:Str) (k:E)|gget (g:Str) (k d:E)
 |len (a:E)|abs (a:E)|toInt (a:E)|sum (a:E)|list (a:E)|tuple (a:E)
 |max (a b:E)
 |call (f:Str) (es:Es)|gf (f:Str)|callv (i:Nat) (es:Es)|callx (c:E) (es:Es)|isT (t:String) (a:E)
 |fld (a:E) (f:Str)|meth (a:E) (m:Str) (es:Es)|make (c:Str) (es:Es)
 |app (a b:E)|ext (a b:E)|popAt (a b:E)|pop (a:E)|index (a b:E)
 |lrev (a:E)
 |gc (g:Str)
 |dnt|dgt (a k:E)|din (ne:Bool) (k a:E)
 |methd (a:E) (m:Str) (es:Es)
 |denu (a:E)|igt (a k:E)
 |isX (c:Str) (a:E)|mkx (c:Str)|mks (a:E)|xat (a:E)
 |comp (Nc:List Str) (fr:List Nat) (k:Nat) (t:Tg) (it:It) (c:E) (e:E)
inductive Es where
 |nil|cons (e:E) (r:Es)
inductive It where
 |seq (e:E)|rng (a:E)|rng2 (a b:E)|enum (e:E)|rev (e:E)|revt (e:E)
end
set_option genCtorIdx true
mutual
inductive S where
 |set (i:Nat) (e:E)
 |put (o i v:E)
 |dput (o i v:E)
 |fldS (o:E) (f:Str) (v:E)
 |ex (e:E)
 |iff (c:E) (a b:Ss)
 |ret (e:E)|retN
 |for (t:Tg) (it:It) (b:Ss)
 |while (c:E) (b:Ss)
 |cont|pass|dead
 |raise
 |try1 (f:Str) (t u i c e:Nat)
 |dfn (i np:Nat) (N:List Str) (cp:List Nat) (b:Ss)
inductive Ss where
 |nil|cons (s:S) (r:Ss)
end
abbrev Es.len:Es->Nat
 |.nil=>0
 |.cons _ r=>r.len+1
set_option genInjectivity true
inductive D where
 |non|bl (b:Bool)|int (i:Int)|str (x:Str)|tup (ds:List D)|ref (a:AI)|fn (f:Str)|clo (np:Nat) (N:List Str) (b:Ss) (cs:List D)|ktup (ks:List Key)
inductive Ob where
 |lst (ds:List D)|fro (ds:List D)|dct (kvs:List (Key×D))|dtt (kvs:List (Ac×D))|ins (c:Str) (fs:List (Str×D))|exc (c:Str)|exa (c:Str) (n:Int)
@[reducible]noncomputable def Sto:=AI->Option Ob
@[reducible]noncomputable def i9:=List (Option D)
@[reducible]noncomputable def DK:=D->Sto->Prop
@[reducible]noncomputable def DT:=i9->Sto->DK->Prop
@[reducible]noncomputable def DB:=i9->Sto->(Bool->Sto->Prop)->Prop
@[reducible]noncomputable def DA:=i9->Sto->(List D->Sto->Prop)->Prop
abbrev b0(st:Sto)(a:AI)(o:Ob):Sto:=λb=>if b=a then AA o else st b
def f7{st}{a}{o}:b0 st a o a=AA o:=by unfold b0;rw[if_pos rfl]
def B6{st}{a b}{o}(h:b≠a):b0 st a o b=st b:=by unfold b0;rw[if_neg h]
abbrev rdS(st:Sto)(a:AI)(ds:List D):Prop:=st a=AA (.lst ds)\/st a=AA (.fro ds)
abbrev Sub(st st':Sto):Prop:=∀a o,st a=AA o->st' a=AA o
def Sub.refl(st:Sto):Sub st st:=λ_ _ h=>h
mutual
noncomputable def D.py:D->Ac
 |.non=>.none|.bl b=>.bool b|.int i=>.int i|.str x=>.str x|.tup ds=>.tuple (D.pys ds)|.ref _=>.none|.fn _=>.none|.clo _ _ _ _=>.none|.ktup _=>.none
noncomputable def D.pys:List D->List Ac
 |[]=>[]
 |d::r=>d.py::D.pys r
end
mutual
noncomputable def D.pure:D->Bool
 |.tup ds=>D.pures ds
 |.ref _=>AG
 |.fn _=>AG
 |.clo _ _ _ _=>AG
 |.ktup _=>AG
 |.str x=>FF (.str x)
 |_=>AC
noncomputable def D.pures:List D->Bool
 |[]=>AC
 |d::r=>d.pure&&D.pures r
end
abbrev kD:Key->D
 |.inl i=>.int i
 |.inr x=>.str x
abbrev deq(d e:D):Bool:=As d.py e.py
abbrev o4(d:D):Nat:=d.py.depth
@[reducible]noncomputable def Spec:=List D->Sto->DK->Prop
structure Sg where
 F:Str->Bool
 Phi:Str->Spec
 G:Str->List (Str×D)
 C:Str->List Str
 Mk:Str->Spec
 MF:Str->Bool
 PhiC:Nat->List Str->Ss->List D->Spec
 Kc:Str->Option D
 X:Bool
 T:Str->Spec
@[inline]def c9(c m:Str):Str:=⟨c.cps++#[46]++m.cps⟩
abbrev z8(C:Str->List Str)(f:Str):Option Int:=match C ⟨#[33]++f.cps⟩with
 |[]=>AE
 |_::l=>AA (l.length:Nat)
abbrev l7(f:Str)(d:D):List (Str×D)->List (Str×D)
 |[]=>[(f,d)]
 |(g,e)::r=>if g=f then(g,d)::r else(g,e)::l7 f d r
abbrev T9(Z:Sg)(ta:Sto->(List D->Sto->Prop)->Prop)(st:Sto)(Q:DK):D->Prop
 |.fn f=>Z.F f=AC/\ta st λds st1=>Z.Phi f ds st1 Q
 |.clo np N b cs=>ta st λds st1=>Z.PhiC np N b cs ds st1 Q
 |_=>False
abbrev O3(env:i9):List Nat->Option (List D)
 |[]=>AA []
 |i::is=>match env[i]?,O3 env is with
  |some (AA d),AA ds=>AA (d::ds)
  |_,_=>AE
abbrev U4(i j:Int):Prop:=au6 i j\/(i.natAbs<2^20000/\j.natAbs<2^20000)
abbrev P9(kvs:List (Key×D))(k:Key):Option D:=(kvs.find? λkv=>AB (kv.1=k)).map (·.2)
abbrev C3:FP->D->D->Sto->DK->Prop
 |.Add,.int i,.int j,st,Q=>Q (.int (i+j)) st
 |.Add,.tup xs,.tup ys,st,Q=>xs.length+ys.length<=sizeLine/\Q (.tup (xs++ys)) st
 |.Sub,.int i,.int j,st,Q=>Q (.int (i-j)) st
 |.Mult,.int i,.int j,st,Q=>U4 i j/\Q (.int (i*j)) st
 |.Mod,.int i,.int j,st,Q=>0<j/\Q (.int (i % j)) st
 |.FloorDiv,.int i,.int j,st,Q=>as5 i j/\Q (.int (i / j)) st
 |.Pow,.int i,.int j,st,Q=>au3 i j/\Q (.int (i^j.toNat)) st
 |_,_,_,_,_=>False
abbrev p7:EO->D->D->Sto->DK->Prop
 |.Eq,x,y,st,Q=>x.pure=AC/\y.pure=AC/\FB (o4 x) (o4 y)<=150/\Q (.bl (deq x y)) st
 |.NotEq,x,y,st,Q=>x.pure=AC/\y.pure=AC/\FB (o4 x) (o4 y)<=150/\Q (.bl (!deq x y)) st
 |.Lt,.int i,.int j,st,Q=>Q (.bl (AB (i<j))) st
 |.LtE,.int i,.int j,st,Q=>Q (.bl (AB (i<=j))) st
 |.Gt,.int i,.int j,st,Q=>Q (.bl (AB (j<i))) st
 |.GtE,.int i,.int j,st,Q=>Q (.bl (AB (j<=i))) st
 |.In,x,.tup ys,st,Q=>x.pure=AC/\D.pures ys=AC/\o4 x<=150/\Q (.bl (ys.any λy=>deq y x)) st
 |.In,.int i,.ktup ks,st,Q=>Q (.bl (ks.any λk=>AB (k=.inl i))) st
 |_,_,_,_,_=>False
abbrev ixR:D->D->Sto->DK->Prop
 |.tup ds,.int i,st,Q=>∃d,atI ds i=AA d/\Q d st
 |.ref a,.int i,st,Q=>(∃ds d,rdS st a ds/\atI ds i=AA d/\Q d st)\/False
 |_,_,_,_=>False
abbrev A8(xs:List D)(lo hi:Option Int):List D:=(xs.drop (HT.sIx xs.length 0 lo)).take (HT.sIx xs.length xs.length hi-HT.sIx xs.length 0 lo)
abbrev slR:D->Option Int->Option Int->Sto->DK->Prop
 |.tup ds,lo,hi,st,Q=>¬(HT.sIx ds.length 0 lo=0/\HT.sIx ds.length ds.length hi=ds.length)/\Q (.tup (A8 ds lo hi)) st
 |.ref a,lo,hi,st,Q=>∃ds,rdS st a ds/\∀p,st p=AE->Q (.ref p) (b0 st p (.lst (A8 ds lo hi)))
 |_,_,_,_,_=>False
abbrev o9:List (Str×D)->Str->Option D
 |[],_=>AE
 |(k,d)::r,x=>if k=x then AA d else o9 r x
abbrev U9:D->Sto->DK->Prop
 |.tup ds,st,Q=>Q (.int ds.length) st
 |.ref a,st,Q=>∃ds,rdS st a ds/\Q (.int ds.length) st
 |_,_,_=>False
abbrev ag4:D->Sto->DK->Prop
 |.bl b,st,Q=>Q (.int (if b then 1 else 0)) st
 |_,_,_=>False
abbrev ah4:D->Sto->DK->Prop
 |.tup ds,st,Q=>∀p,st p=AE->Q (.ref p) (b0 st p (.lst ds))
 |_,_,_=>False
abbrev aa3:D->Sto->DK->Prop
 |.ref a,st,Q=>∃ds,rdS st a ds/\Q (.tup ds) st
 |_,_,_=>False
abbrev ai8:D->Sto->DK->Prop
 |.ref a,st,Q=>∃ns:List Int,rdS st a (ns.map D.int)/\Q (.int ns.sum) st
 |_,_,_=>False
abbrev bd4:D->Sto->DK->Prop
 |.ref a,st,Q=>∃ds,rdS st a ds/\Q (.bl AC) st
 |_,_,_=>False
abbrev ar2:D->D->Sto->DK->Prop
 |.ref a,.int i,st,Q=>(-(2^62)<=i/\i<2^62)/\∃ds k d,st a=AA (.lst ds)/\ixN ds.length i=AA k/\ds[k]?=AA d/\Q d (b0 st a (.lst (ds.eraseIdx k)))
 |_,_,_,_=>False
abbrev ac7:D->Sto->DK->Prop
 |.ref a,st,Q=>∃ds d,st a=AA (.lst (ds++[d]))/\Q d (b0 st a (.lst ds))
 |_,_,_=>False
abbrev ac5:D->Sto->DK->Prop
 |.ref a,st,Q=>∃ds,st a=AA (.lst ds)/\Q .non (b0 st a (.lst ds.reverse))
 |_,_,_=>False
abbrev E8(kvs:List (Ac×D))(k:Ac):Option D:=(kvs.find? λkv=>AB (kv.1=k)).map (·.2)
abbrev X5(kvs:List (Ac×D))(k:Ac)(v:D):List (Ac×D):=
 if(kvs.any λkv=>AB (kv.1=k))=AC then kvs.map (λkv=>if kv.1=k then(kv.1,v)else kv)else kvs++[(k,v)]
abbrev D.key(d:D):Prop:=NK.lit d.py=AC/\d.py.depth<=7
abbrev ai6:D->Option Int->Option Int->Sto->DK->Prop
 |.tup ds,lo,hi,st,Q=>Q (.tup (A8 ds lo hi)) st
 |_,_,_,_,_=>False
abbrev av0:D->Sto->Prop
 |.ref a,st=>∃kvs,st a=AA (.dtt kvs)
 |_,_=>False
abbrev au4:D->D->Sto->DK->Prop
 |.ref a,.tup ks,st,Q=>∃kvs,st a=AA (.dtt kvs)/\D.key (.tup ks)/\Q ((E8 kvs (D.tup ks).py).getD .non) st
 |_,_,_,_=>False
abbrev U8(ne:Bool):D->D->Sto->DK->Prop
 |.non,.ref a,st,Q=>st a=AA (.dtt [])/\Q (.bl ne) st
 |_,_,_,_=>False
abbrev as7:D->D->D->Sto->(Sto->Prop)->Prop
 |.ref a,.tup ks,d,st,K=>∃kvs,st a=AA (.dtt kvs)/\D.key (.tup ks)/\kvs.length<sizeLine/\K (b0 st a (.dtt (X5 kvs (D.tup ks).py d)))
 |_,_,_,_,_=>False
abbrev p9{α:Type}:Nat->List α->List (Key×α)
 |_,[]=>[]
 |i,x::r=>(.inl (i:Int),x)::p9 (i+1) r
abbrev av2:D->Sto->Prop
 |.ref a,st=>∃kvs,st a=AA (.dct kvs)
 |_,_=>False
abbrev au2:D->D->Sto->DK->Prop
 |.ref a,.int i,st,Q=>∃kvs,st a=AA (.dct kvs)/\Q ((P9 kvs (.inl i)).getD .non) st
 |_,_,_,_=>False
abbrev exK(st:Sto)(p:AI)(k:Str):Prop:=st p=AA (.exc k)\/∃n,st p=AA (.exa k n)
abbrev C6(k c:Str):Bool:=k==c||(c=="EvenError"||c=="ValueError")
abbrev ab9:D->D->Sto->DK->Prop
 |.ref a,d,st,Q=>∃ds,st a=AA (.lst ds)/\ds.length<sizeLine/\Q .non (b0 st a (.lst (ds++[d])))
 |_,_,_,_=>False
abbrev ac6:D->D->Sto->DK->Prop
 |.ref a,.ref b,st,Q=>∃ds es,st a=AA (.lst ds)/\st b=AA (.lst es)/\ds.length+es.length<=sizeLine/\Q .non (b0 st a (.lst (ds++es)))
 |_,_,_,_=>False
abbrev T5:D->D->Sto->DK->Prop
 |.tup ds,x,st,Q=>x.pure=AC/\D.pures ds=AC/\o4 x<=150/\∃(j:Nat)(d:D),ds[j]?=AA d/\deq d x=AC/\(∀(i:Nat)e,i<j->ds[i]?=AA e->deq e x=AG)/\Q (.int (j:Int)) st
 |_,_,_,_=>False
abbrev E3:D->Sto->Prop
 |.ref a,st=>∃ds,rdS st a ds
 |_,_=>False
abbrev ac2:D->Sto->Prop
 |.tup _,_=>True
 |_,_=>False
abbrev tyD:D->Sto->Option String
 |.non,_=>AA "NoneType"|.bl _,_=>AA "bool"|.int _,_=>AA "int"|.str _,_=>AA "str"|.tup _,_=>AA "tuple"|.ktup _,_=>AA "tuple"
 |_,_=>AE
abbrev ah9(t:String)(d:D)(st:Sto)(Q:DK):Prop:=(∃ty,tyD d st=AA ty/\Q (.bl (ty==t||(ty=="bool"&&t=="int"))) st)\/∃a ds,d=.ref a/\rdS st a ds/\Q (.bl (t=="list")) st
abbrev T7:i9->List Nat->List D->i9
 |env,i::is,d::ds=>T7 (env.set i (AA d)) is ds
 |env,_,_=>env
abbrev N9:Tg->D->i9->(i9->Prop)->Prop
 |.n i,d,env,k=>k (env.set i (AA d))
 |.tup is,d,env,k=>∃ds,d=.tup ds/\ds.length=is.length/\k (T7 env is ds)
abbrev v5(lo:Int)(n:Nat):List D:=(DN n).map λi=>.int (lo+(i:Nat))
abbrev p8:Nat->List D->List D
 |_,[]=>[]
 |i,d::ds=>.tup [.int i,d]::p8 (i+1) ds
abbrev z6(chk:Sto->Prop)(t:Tg)(tc:DB)(te:DT)(Q:List D->Sto->Prop):List D->List D->i9->Sto->Prop
 |[],acc,_,st=>chk st/\Q acc st
 |d::ds,acc,env,st=>chk st/\N9 t d env λenv'=>tc env' st λb st1=>
   if b=AC then te env' st1 λv st2=>z6 chk t tc te Q ds (acc++[v]) env' st2
   else z6 chk t tc te Q ds acc env' st1
abbrev S6(fr:List Nat)(k:Nat)(env:i9):i9:=(fr.map λj=>(env[j]?).join)++Cq k AE
abbrev E.isNon:E->Bool
 |.non=>AC
 |_=>AG
@[reducible]noncomputable def ItK:=List D->(Sto->Prop)->Sto->Prop
mutual
noncomputable def wpE(Z:Sg):E->DT
 |.non=>λ_ st Q=>Q .non st
 |.bl b=>λ_ st Q=>Q (.bl b) st
 |.int i=>λ_ st Q=>Q (.int i) st
 |.str x=>λ_ st Q=>Q (.str x) st
 |.v i=>λenv st Q=>∃d,env[i]?=AA (AA d)/\Q d st
 |.tup es=>λenv st Q=>r9 Z es env st λds st1=>Q (.tup ds) st1
 |.lst es=>λenv st Q=>r9 Z es env st λds st1=>∀p,st1 p=AE->Q (.ref p) (b0 st1 p (.lst ds))
 |.bin o a b=>λenv st Q=>wpE Z a env st λx st1=>wpE Z b env st1 λy st2=>C3 o x y st2 Q
 |.neg a=>λenv st Q=>wpE Z a env st λx st1=>∃i,x=.int i/\Q (.int (-i)) st1
 |.cmp o a b=>λenv st Q=>wpE Z a env st λx st1=>wpE Z b env st1 λy st2=>p7 o x y st2 Q
 |.isN a=>λenv st Q=>wpE Z a env st λx st1=>(x=.non/\Q (.bl AC) st1)\/(x≠.non/\Q (.bl AG) st1)
 |.notN a=>λenv st Q=>wpE Z a env st λx st1=>(x=.non/\Q (.bl AG) st1)\/(x≠.non/\Q (.bl AC) st1)
 |.and a b=>λenv st Q=>wpE Z a env st λx st1=>∃c,x=.bl c/\(if c=AC then wpE Z b env st1 Q else Q (.bl AG) st1)
 |.or a b=>λenv st Q=>wpE Z a env st λx st1=>∃c,x=.bl c/\(if c=AC then Q (.bl AC) st1 else wpE Z b env st1 Q)
 |.not a=>λenv st Q=>wpE Z a env st λx st1=>∃c,x=.bl c/\Q (.bl (!c)) st1
 |.ite c a b=>λenv st Q=>wpE Z c env st λx st1=>∃k,x=.bl k/\(if k=AC then wpE Z a env st1 Q else wpE Z b env st1 Q)
 |.ix a b=>λenv st Q=>wpE Z a env st λx st1=>wpE Z b env st1 λy st2=>ixR x y st2 Q
 |.sl a lo hi=>λenv st Q=>wpE Z a env st λx st1=>
   (if lo.isNon=AC then λk=>k AE st1 else λ(k:Option Int->Sto->Prop)=>wpE Z lo env st1 λd st'=>∃i,d=.int i/\k (AA i) st') λl st2=>
   (if hi.isNon=AC then λk=>k AE st2 else λ(k:Option Int->Sto->Prop)=>wpE Z hi env st2 λd st'=>∃i,d=.int i/\k (AA i) st') λh st3=>slR x l h st3 Q
 |.slw a lo hi=>λenv st Q=>wpE Z a env st λx st1=>
   (if lo.isNon=AC then λk=>k AE st1 else λ(k:Option Int->Sto->Prop)=>wpE Z lo env st1 λd st'=>∃i,d=.int i/\k (AA i) st') λl st2=>
   (if hi.isNon=AC then λk=>k AE st2 else λ(k:Option Int->Sto->Prop)=>wpE Z hi env st2 λd st'=>∃i,d=.int i/\k (AA i) st') λh st3=>ai6 x l h st3 Q
 |.dsel ks vs k=>λenv st Q=>r9 Z vs env st λds st1=>wpE Z k env st1 λx st2=>∃w d,x=.str w/\o9 (ks.zip ds) w=AA d/\Q d st2
 |.gget g k d=>λenv st Q=>Z.G g≠[]/\wpE Z k env st λx st1=>wpE Z d env st1 λy st2=>∃w,x=.str w/\Q ((o9 (Z.G g) w).getD y) st2
 |.gsel g k=>λenv st Q=>Z.G g≠[]/\wpE Z k env st λx st1=>∃w d,x=.str w/\o9 (Z.G g) w=AA d/\Q d st1
 |.len a=>λenv st Q=>wpE Z a env st λx st1=>U9 x st1 Q
 |.abs a=>λenv st Q=>wpE Z a env st λx st1=>∃i,x=.int i/\Q (.int (if i<0 then -i else i)) st1
 |.toInt a=>λenv st Q=>wpE Z a env st λx st1=>ag4 x st1 Q
 |.sum a=>λenv st Q=>wpE Z a env st λx st1=>ai8 x st1 Q
 |.list a=>λenv st Q=>wpE Z a env st λx st1=>ah4 x st1 Q
 |.tuple a=>λenv st Q=>wpE Z a env st λx st1=>aa3 x st1 Q
 |.max a b=>λenv st Q=>wpE Z a env st λx st1=>wpE Z b env st1 λy st2=>∃i j,x=.int i/\y=.int j/\Q (.int (if j>i then j else i)) st2
 |.call f es=>λenv st Q=>Z.F f=AC/\r9 Z es env st λds st1=>Z.Phi f ds st1 Q
 |.gf f=>λ_ st Q=>Z.F f=AC/\Q (.fn f) st
 |.callx c es=>λenv st Q=>wpE Z c env st λx st1=>∃f,x=.fn f/\Z.F f=AC/\r9 Z es env st1 λds st2=>Z.Phi f ds st2 Q
 |.callv i es=>λenv st Q=>∃x,env[i]?=AA (AA x)/\T9 Z (r9 Z es env) st Q x
 |.gc g=>λ_ st Q=>∃d,Z.Kc g=AA d/\Q d st
 |.isT t a=>λenv st Q=>wpE Z a env st λx st1=>ah9 t x st1 Q
 |.fld a f=>λenv st Q=>wpE Z a env st λx st1=>∃p c fs d,x=.ref p/\st1 p=AA (.ins c fs)/\f∈Z.C c/\fs.lookup f=AA d/\Q d st1
 |.meth a m es=>λenv st Q=>wpE Z a env st λx st1=>∃p c fs,x=.ref p/\st1 p=AA (.ins c fs)/\fs.lookup m=AE/\Z.F (c9 c m)=AC/\r9 Z es env st1 λds st2=>Z.Phi (c9 c m) (.ref p::ds) st2 Q
 |.methd a m es=>λenv st Q=>wpE Z a env st λx st1=>∃p c fs i,x=.ref p/\st1 p=AA (.ins c fs)/\fs.lookup m=AE/\Z.F (c9 c m)=AC/\z8 Z.C (c9 c m)=AA i/\r9 Z es env st1 λds st2=>Z.Phi (c9 c m) (.ref p::(ds++[.int i])) st2 Q
 |.make c es=>λenv st Q=>Z.MF (c9 c "__init__")=AC/\r9 Z es env st λds st1=>∀p,st1 p=AE->Z.Mk (c9 c "__init__") (.ref p::ds) (b0 st1 p (.ins c [])) λv st2=>v=.non/\Q (.ref p) st2
 |.app a b=>λenv st Q=>wpE Z a env st λx st1=>E3 x st1/\wpE Z b env st1 λy st2=>ab9 x y st2 Q
 |.ext a b=>λenv st Q=>wpE Z a env st λx st1=>E3 x st1/\wpE Z b env st1 λy st2=>ac6 x y st2 Q
 |.popAt a b=>λenv st Q=>wpE Z a env st λx st1=>E3 x st1/\wpE Z b env st1 λy st2=>ar2 x y st2 Q
 |.pop a=>λenv st Q=>wpE Z a env st λx st1=>ac7 x st1 Q
 |.denu a=>λenv st Q=>wpE Z a env st λx st1=>∃ds,x=.tup ds/\ds.length<=1000000/\∀p,st1 p=AE->Q (.ref p) (b0 st1 p (.dct (p9 0 ds)))
 |.igt a k=>λenv st Q=>wpE Z a env st λx st1=>av2 x st1/\wpE Z k env st1 λy st2=>au2 x y st2 Q
 |.isX c a=>λenv st Q=>c∈Z.C "!ix"/\wpE Z a env st λx st1=>∃p k,x=.ref p/\exK st1 p k/\k∈Z.C "!xk"/\Q (.bl (C6 k c)) st1
 |.mkx c=>λenv st Q=>c∈Z.C "!mx"/\∀p,st p=AE->Q (.ref p) (b0 st p (.exc c))
 |.mks a=>λenv st Q=>Z.C "!ns"≠[]/\Z.MF "law"=AC/\wpE Z a env st λx st1=>∃n,x=.int n/\∀p,st1 p=AE->Q (.ref p) (b0 st1 p (.exa "NoStep" n))
 |.xat a=>λenv st Q=>Z.C "!ns"≠[]/\wpE Z a env st λx st1=>∃p n,x=.ref p/\st1 p=AA (.exa "NoStep" n)/\Q (.int n) st1
 |.dnt=>λenv st Q=>Z.C "!kt"≠[]/\∀p,st p=AE->Q (.ref p) (b0 st p (.dtt []))
 |.dgt a k=>λenv st Q=>wpE Z a env st λx st1=>av0 x st1/\wpE Z k env st1 λy st2=>au4 x y st2 Q
 |.din ne k a=>λenv st Q=>wpE Z k env st λy st1=>wpE Z a env st1 λx st2=>U8 ne y x st2 Q
 |.lrev a=>λenv st Q=>wpE Z a env st λx st1=>ac5 x st1 Q
 |.index a b=>λenv st Q=>wpE Z a env st λx st1=>ac2 x st1/\wpE Z b env st1 λy st2=>T5 x y st2 Q
 |.comp _ fr k t it c e=>λenv st Q=>Z.X=AG/\B3 Z it env st λitems chk st1=>items.length<=1000000 /\
   z6 chk t (if c.isNon=AC then λ_ st Q=>Q AC st else λenv st Q=>wpE Z c env st λd st'=>∃b,d=.bl b/\Q b st') (λenv st Q=>wpE Z e env st Q) (λacc st'=>∀p,st' p=AE->Q (.ref p) (b0 st' p (.lst acc))) items [] (S6 fr k env) st1
noncomputable def r9(Z:Sg):Es->DA
 |.nil=>λ_ st Q=>Q [] st
 |.cons e r=>λenv st Q=>wpE Z e env st λd st1=>r9 Z r env st1 λds st2=>Q (d::ds) st2
noncomputable def B3(Z:Sg):It->i9->Sto->ItK->Prop
 |.seq e=>λenv st k=>wpE Z e env st λd st1=>(∃ds,d=.tup ds/\k ds (λ_=>True) st1)\/(∃a ds,d=.ref a/\rdS st1 a ds/\k ds (λst'=>rdS st' a ds) st1)
 |.rng a=>λenv st k=>wpE Z a env st λd st1=>∃j:Int,d=.int j/\(-(2^62)<=j/\j<2^62)/\k (v5 0 j.toNat) (λ_=>True) st1
 |.rng2 a b=>λenv st k=>wpE Z a env st λd st1=>wpE Z b env st1 λe st2=>∃i j:Int,d=.int i/\e=.int j/\(-(2^62)<=i/\i<2^62/\-(2^62)<=j/\j<2^62)/\k (v5 i (j-i).toNat) (λ_=>True) st2
 |.enum e=>λenv st k=>wpE Z e env st λd st1=>(∃ds,d=.tup ds/\k (p8 0 ds) (λ_=>True) st1)\/(∃a ds,d=.ref a/\rdS st1 a ds/\k (p8 0 ds) (λst'=>rdS st' a ds) st1)
 |.revt e=>λenv st k=>wpE Z e env st λd st1=>∃ds,d=.tup ds/\k ds.reverse (λ_=>True) st1
 |.rev e=>λenv st k=>wpE Z e env st λd st1=>∃a ds,d=.ref a/\rdS st1 a ds/\k ds.reverse (λst'=>rdS st' a ds) st1
end
abbrev wpT(Z:Sg)(e:E):DB:=λenv st Q=>wpE Z e env st λd st'=>∃b,d=.bl b/\Q b st'
structure DEnds where
 nx:i9->Sto->Prop
 rt:DK
 bk:i9->Sto->Prop:=λ_ _=>False
 ct:i9->Sto->Prop:=λ_ _=>False
@[reducible]noncomputable def DS:=DEnds->i9->Sto->Prop
abbrev t6(chk:Sto->Prop)(t:Tg)(tb:DS)(F:DEnds):List D->i9->Sto->Prop
 |[],env,st=>chk st/\F.nx env st
 |d::ds,env,st=>chk st/\N9 t d env λenv'=>tb {F with nx:=t6 chk t tb F ds,ct:=t6 chk t tb F ds,bk:=F.nx} env' st
abbrev A4(tc:DB)(tb:DS)(F:DEnds):Nat->i9->Sto->Prop
 |0,_,_=>False
 |n+1,env,st=>tc env st λb st1=>if b=AC then tb {F with nx:=A4 tc tb F n,ct:=A4 tc tb F n,bk:=F.nx} env st1 else F.nx env st1
mutual
noncomputable def wpS(Z:Sg):S->DS
 |.set i e=>λF env st=>wpE Z e env st λd st1=>F.nx (env.set i (AA d)) st1
 |.dput o i v=>λF env st=>wpE Z v env st λd st1=>wpE Z o env st1 λx st2=>wpE Z i env st2 λy st3=>as7 x y d st3 λst4=>F.nx env st4
 |.put o i v=>λF env st=>wpE Z v env st λd st1=>wpE Z o env st1 λx st2=>wpE Z i env st2 λy st3=>
   ∃a j k ds,x=.ref a/\y=.int j/\st3 a=AA (.lst ds)/\ixN ds.length j=AA k/\F.nx env (b0 st3 a (.lst (ds.set k d)))
 |.fldS o f v=>λF env st=>wpE Z v env st λd st1=>wpE Z o env st1 λx st2=>∃p c fs,x=.ref p/\st2 p=AA (.ins c fs)/\f∈Z.C c/\fs.length<1000/\F.nx env (b0 st2 p (.ins c (l7 f d fs)))
 |.ex e=>λF env st=>wpE Z e env st λ_ st1=>F.nx env st1
 |.iff c a b=>λF env st=>wpT Z c env st λk st1=>if k=AC then i5 Z a F env st1 else i5 Z b F env st1
 |.ret e=>λF env st=>wpE Z e env st F.rt
 |.retN=>λF _ st=>F.rt .non st
 |.for t it b=>λF env st=>B3 Z it env st λitems chk st1=>t6 chk t (i5 Z b) F items env st1
 |.while c b=>λF env st=>∃n,A4 (wpT Z c) (i5 Z b) F n env st
 |.raise=>λ_ _ _=>Z.X=AC/\Z.C "!ix"≠[]
 |.try1 f t u i c e=>λF env st=>Z.C "!ix"≠[]/\Z.X=AG/\Z.F f=AC/\∃x y,env[t]?=AA (AA x)/\env[u]?=AA (AA y) /\
   (Z.Phi f [x,y] (λ_=>AE) (λd _=>F.nx (env.set i (AA d)) st)\/
     (Z.T f [x,y] (λ_=>AE) (λd _=>F.nx (env.set i (AA d)) st)/\∀a,st a=AE->F.nx ((env.set e AE).set c (AA (.ref a))) (b0 st a (.exc "NoKind"))))
 |.cont=>λF env st=>F.ct env st
 |.dead=>λ_ _ _=>False
 |.pass=>λF env st=>F.nx env st
 |.dfn i np N cp b=>λF env st=>∃cs,O3 env cp=AA cs/\F.nx (env.set i (AA (.clo np N b cs))) st
noncomputable def i5(Z:Sg):Ss->DS
 |.nil=>λF env st=>F.nx env st
 |.cons s r=>λF env st=>wpS Z s {F with nx:=i5 Z r F} env st
end
structure Def where
 np:Nat
 N:List Str
 body:Ss
@[reducible]noncomputable def i6:=Str->Option Def
variable{P:i6}
abbrev S7(f:Def)(ds:List D):i9:=ds.map AA++Cq (f.N.length-ds.length) AE
structure Gs where
 tab:Str->List (Str×D)
 cls:Str->List Str
 cst:Str->Option D
variable{G:Gs}
abbrev aj2(P:i6)(G:Gs)(X:Bool)(lt lo lo2:Str->Spec)(po:Bool)(lc:Nat->List Str->Ss->List D->Spec)(f:Str):Spec:=λds st Q=>∃fd,P f=AA fd/\ds.length=fd.np/\i5 ⟨λf=>(P f).isSome,lo,G.tab,G.cls,lo2,λf=>po&&(P f).isSome,lc,G.cst,X,lt⟩ fd.body
   {nx:=λ_ st'=>∃s2,Sub s2 st'/\Q .non s2,rt:=λd st'=>∃s2,Sub s2 st'/\Q d s2} (S7 fd ds) st
abbrev G5(N:List Str)(ds cs:List D):i9:=(ds++cs).map AA++Cq (N.length-(ds++cs).length) AE
abbrev ai0(P:i6)(G:Gs)(X:Bool)(lt lo lo2:Str->Spec)(po:Bool)(lc:Nat->List Str->Ss->List D->Spec)(np:Nat)(N:List Str)(b:Ss)(cs:List D):Spec:=λds st Q=>ds.length=np/\i5 ⟨λf=>(P f).isSome,lo,G.tab,G.cls,lo2,λf=>po&&(P f).isSome,lc,G.cst,X,lt⟩ b
   {nx:=λ_ st'=>∃s2,Sub s2 st'/\Q .non s2,rt:=λd st'=>∃s2,Sub s2 st'/\Q d s2} (G5 N ds cs) st
abbrev orF(a b:Str->Spec):Str->Spec:=λf ds st Q=>a f ds st Q\/b f ds st Q
abbrev orC(a b:Nat->List Str->Ss->List D->Spec):Nat->List Str->Ss->List D->Spec:=λnp N s cs ds st Q=>a np N s cs ds st Q\/b np N s cs ds st Q
structure SLv where
 s:Str->Spec
 mf:Str->Spec
 po:Bool
 c:Nat->List Str->Ss->List D->Spec
 r:Str->Spec
 rc:Nat->List Str->Ss->List D->Spec
 p1:Bool
abbrev y6(P:i6)(G:Gs):Nat->SLv
 |0=>⟨λ_ _ _ _=>False,λ_ _ _ _=>False,AG,λ_ _ _ _ _ _ _=>False,λ_ _ _ _=>False,λ_ _ _ _ _ _ _=>False,AG⟩
 |n+1=>let L:=y6 P G n
  ⟨aj2 P G AG L.r L.s L.mf L.po L.c,L.s,L.p1,ai0 P G AG L.r L.s L.mf L.po L.c,aj2 P G AC L.r (orF L.r L.s) L.mf L.po (orC L.rc L.c),ai0 P G AC L.r (orF L.r L.s) L.mf L.po (orC L.rc L.c),AC⟩
abbrev sem(P:i6)(G:Gs)(n:Nat):Str->Spec:=(y6 P G n).s
abbrev G0(P:i6)(G:Gs)(n:Nat):Nat->List Str->Ss->List D->Spec:=(y6 P G n).c
abbrev A6(P:i6)(G:Gs)(n:Nat):Str->Spec:=(y6 P G n).r
abbrev U2(P:i6)(G:Gs)(n:Nat):Nat->List Str->Ss->List D->Spec:=(y6 P G n).rc
def by8:sem P G (n+1)=aj2 P G AG (A6 P G n) (sem P G n) (y6 P G n).mf (y6 P G n).po (G0 P G n):=rfl
def bt9:G0 P G (n+1)=ai0 P G AG (A6 P G n) (sem P G n) (y6 P G n).mf (y6 P G n).po (G0 P G n):=rfl
def bw1:A6 P G (n+1)=aj2 P G AC (A6 P G n) (orF (A6 P G n) (sem P G n)) (y6 P G n).mf (y6 P G n).po (orC (U2 P G n) (G0 P G n)):=rfl
def br6:U2 P G (n+1)=ai0 P G AC (A6 P G n) (orF (A6 P G n) (sem P G n)) (y6 P G n).mf (y6 P G n).po (orC (U2 P G n) (G0 P G n)):=rfl
abbrev J0:Bool->i6->Gs->Nat->Str->Spec
 |true,P,G,n=>A6 P G n
 |false,P,G,n=>sem P G n
abbrev aa9:Bool->i6->Gs->Nat->Nat->List Str->Ss->List D->Spec
 |true,P,G,n=>U2 P G n
 |false,P,G,n=>G0 P G n
abbrev pF:Bool->i6->Gs->Nat->Str->Spec
 |true,P,G,n=>orF (A6 P G n) (sem P G n)
 |false,P,G,n=>sem P G n
abbrev pC:Bool->i6->Gs->Nat->Nat->List Str->Ss->List D->Spec
 |true,P,G,n=>orC (U2 P G n) (G0 P G n)
 |false,P,G,n=>G0 P G n
@[reducible]noncomputable def Zl(bX:Bool)(P:i6)(G:Gs)(n:Nat):Sg:=⟨λf=>(P f).isSome,pF bX P G n,G.tab,G.cls,(y6 P G n).mf,λf=>(y6 P G n).po&&(P f).isSome,pC bX P G n,G.cst,bX,A6 P G n⟩
end
section
class Tbs where
 ps:List AI
 mt:Ss->BE->List Str->Dj->Prop
 kt:Bool
variable{H:Hp}{a p:AI}{xs vs:List V}{v:V}{ds:List D}{o:HO}{σ:L2.St}{st:Sto}{kvs:List (Ac×D)}{ob:Ob}{X:Cx}{x:AS}{Qd:DK}{Q:VK}
structure FnScC(N P:List Str)(sc:BE):Prop where
 kind:sc.kind=.function
 co:sc.isCoroutine=AG
 gen:sc.isGenerator=AG
 nd:N.Nodup
 pre:N.take P.length=P
 par:∀x∈P,sc.names.lookup x=AA .local
 nocell:∀y∈sc.names,y.2≠.cell
 fre:∀y∈sc.names,y.2=.free->sc.names.lookup y.1=AA .free
abbrev G7(H:Hp)(cv:AF):Prop:=∃c o u vs q t,cv=.ref c/\H c=AA (.frz o u)/\(∀vs,u≠.lst vs)/\o.data=.fields vs/\vs[1]?=AA (.str q t)
variable [Tbs]
structure CloF(fd:BZ)(np:Nat)(N ps:List Str)(b:Ss):Prop where
 sc:FnScC N ps fd.scope
 np:ps.length=np
 mt:Tbs.mt b fd.scope N fd.body
 bind:∀us:List AF,us.length=ps.length->EF fd ⟨us,[]⟩=pure (ps.zip us)
 gl:fd.globals=AK
 bl:fd.builtins=CL
 has:∀x,(x,Aw)∈fd.scope.names->∃c,fd.closure.lookup x=AA c
 fre:∀x c,fd.closure.lookup x=AA c->(x,Aw)∈fd.scope.names
 inj:∀x y c,fd.closure.lookup x=AA c->fd.closure.lookup y=AA c->x=y
structure CloR(H:Hp)(f:AI)(fd:BZ)(np:Nat)(N:List Str)(us:List V):Prop where
 ex:∃o u,H f=AA (.frz o u)/\(∀vs,u≠.lst vs)/\o.data=.func fd
 cd:G7 H fd.code
 cl:∀x c,fd.closure.lookup x=AA c->∃o' u' w,H c=AA (.frz o' u')/\(∀vs,u'≠.lst vs)/\o'.data=.cell (AA w)
 at':∀(i:Nat)v,us[i]?=AA v->∃x c o' u' w,N[np+i]?=AA x/\fd.closure.lookup x=AA c/\H c=AA (.frz o' u')/\(∀vs,u'≠.lst vs)/\o'.data=.cell (AA w)/\i7 v w
abbrev Q1(H:Hp)(f:AI)(np:Nat)(N:List Str)(b:Ss)(us:List V):Prop:=∃fd ps,CloF fd np N ps b/\CloR H f fd np N us
abbrev SqX(K:AM)(H:Hp)(a:AI)(xs:List V):Prop:=H a=AA (.tup xs)\/(Tbs.kt=AC/\SqT K H a xs)
def SqX.sqt{K}(h:SqX K H a xs):=h.elim (λh=>.inl (.inl h)) λh=>h.2
def SqX.of{K:AM}(h:H a=AA (.tup xs)):SqX K H a xs:=.inl h
def SqX.trk{K}(b:Tbs.kt=AG)(h:SqX K H a xs):=h.elim (λh=>h) λh=>by simp_all
inductive IsD(K:AM)(H:Hp):D->V->Prop where
 |non:IsD K H .non .non
 |bl (b:Bool):IsD K H (.bl b) (.bl b)
 |int (i:Int):IsD K H (.int i) (.int i)
 |str (x:Str):IsD K H (.str x) (.str x)
 |ref (a:AI):IsD K H (.ref a) (.ref a)
 |fn {f:Str} {a:AI}:Ae K AK f=AA (AA (.ref a))->IsD K H (.fn f) (.ref a)
 |clo {f:AI} {np:Nat} {N:List Str} {b:Ss} {ds:List D} {us:List V}:Q1 H f np N b us->ds.length=us.length->(∀(i:Nat)d v,ds[i]?=AA d->us[i]?=AA v->IsD K H d v)->IsD K H (.clo np N b ds) (.ref f)
 |tup {a:AI} {ds:List D} {vs:List V}:SqX K H a vs->ds.length=vs.length->(∀(i:Nat)d v,ds[i]?=AA d->vs[i]?=AA v->IsD K H d v)->IsD K H (.tup ds) (.ref a)
 |ktup {a:AI} {ks:List Key}:SqT K (λ_=>AE) a (ks.map kV)->D.pures (ks.map kD)=AC->IsD K H (.ktup ks) (.ref a)
structure IsDs(K:AM)(H:Hp)(ds:List D)(vs:List V):Prop where
 len:ds.length=vs.length
 at':∀(i:Nat)d v,ds[i]?=AA d->vs[i]?=AA v->IsD K H d v
section
variable {K:AM} {H' H2:Hp} {d:D} {es:List D} {ws:List V}
def IsD.mk(h:SqX K H a vs)(r:IsDs K H ds vs):IsD K H (.tup ds) (.ref a):=.tup h r.len r.at'
def IsD.tup_invX(h:IsD K H (.tup ds) v):∃a vs,v=.ref a/\SqX K H a vs/\IsDs K H ds vs:=by
 cases h with
 |tup a b c=>exact⟨_,_,rfl,a,b,c⟩
def IsD.tup_inv(h:IsD K H (.tup ds) v):∃a vs,v=.ref a/\SqT K H a vs/\IsDs K H ds vs:=let⟨a,vs,e,q,r⟩:=h.tup_invX;⟨a,vs,e,q.sqt,r⟩
def IsDs.nil:IsDs K H [] []:=⟨rfl,λi d v h=>by simp at h⟩
def IsDs.cons(h:IsD K H d v)(r:IsDs K H ds vs):IsDs K H (d::ds) (v::vs):=⟨by simp[r.len],λi e w h1 h2=>by
 cases i with
 |zero=>simp_all
 |succ i=>exact r.at' i e w (by simpa using h1) (by simpa using h2)⟩
def IsDs.get(r:IsDs K H ds vs){i:Nat}{d}(h:ds[i]?=AA d):∃v,vs[i]?=AA v/\IsD K H d v:=by
 have hi:=(AT.mp h).1;rw[r.len]at hi;exact⟨vs[i],AO hi,r.at' i d _ h (AO hi)⟩
def IsDs.get'(r:IsDs K H ds vs){i:Nat}(h:vs[i]?=AA v):∃d,ds[i]?=AA d/\IsD K H d v:=by
 have hi:=(AT.mp h).1;rw[<-r.len]at hi;exact⟨ds[i],AO hi,r.at' i _ v (AO hi) h⟩
def IsDs.inv_cons{d}(r:IsDs K H (d::ds) vs):∃v a,vs=v::a/\IsD K H d v/\IsDs K H ds a:=by
 cases vs with
 |nil=>have:=r.len;simp at this
 |cons v a=>exact⟨v,a,rfl,r.at' 0 d v rfl rfl,by have:=r.len;simpa using this,λi e w h1 h2=>r.at' (i+1) e w (by simpa using h1) (by simpa using h2)⟩
def IsDs.inv_nil(r:IsDs K H [] vs):vs=[]:=by
 cases vs with
 |nil=>rfl
 |cons v c=>have:=r.len;simp at this
def IsDs.append(r:IsDs K H ds vs)(q:IsDs K H es ws):IsDs K H (ds++es) (vs++ws):=⟨by simp[r.len,q.len],λi d v h1 h2=>by
 by_cases hi:i<ds.length
 ·rw[Aa hi]at h1;rw[Aa (r.len▸hi)]at h2;exact r.at' i d v h1 h2
 ·rw[An ⋯]at h1;rw[An (by rw[<-r.len];lia),<-r.len]at h2;exact q.at' _ d v h1 h2⟩
theorem IsDs.drop(r:IsDs K H ds vs)n:IsDs K H (ds.drop n) (vs.drop n):=⟨by simp[r.len],λi d v h1 h2=>by
 rw[List.getElem?_drop]at h1 h2;exact r.at' _ d v h1 h2⟩
theorem IsDs.take(r:IsDs K H ds vs)n:IsDs K H (ds.take n) (vs.take n):=⟨by simp[r.len],λi d v h1 h2=>by
 rw[List.getElem?_take]at h1 h2
 split at h1
 ·rename_i hi;rw[if_pos hi]at h2;exact r.at' _ d v h1 h2
 ·cases h1⟩
theorem IsDs.set(r:IsDs K H ds vs)(h:IsD K H d v)n:IsDs K H (ds.set n d) (vs.set n v):=⟨by simp[r.len],λi e w h1 h2=>by
 rw[Fb]at h1 h2
 by_cases hi:n=i
 ·simp_all
 ·rw[if_neg hi]at h1 h2;exact r.at' i e w h1 h2⟩
theorem IsDs.erase:∀{ds}{vs}(r:IsDs K H ds vs)n,IsDs K H (ds.eraseIdx n) (vs.eraseIdx n)
 |[],vs,r,n=>by rw[r.inv_nil];simpa using IsDs.nil
 |d::ds,vs,r,n=>by
  obtain⟨v,f,rfl,e,c⟩:=r.inv_cons;cases n with
  |zero=>simp_all
  |succ n=>simpa using IsDs.cons e (IsDs.erase c n)
theorem IsDs.rev:∀{ds}{vs}(r:IsDs K H ds vs),IsDs K H ds.reverse vs.reverse
 |[],vs,r=>r.inv_nil▸IsDs.nil
 |d::ds,vs,r=>by
  obtain⟨v,c,rfl,b,a⟩:=r.inv_cons;rw[Di,Di];exact(IsDs.rev a).append (IsDs.cons b IsDs.nil)
theorem IsDs.ints:∀{ns:List Int}{vs},IsDs K H (ns.map D.int) vs->vs=ns.map V.int
 |[],vs,r=>r.inv_nil
 |n::ns,vs,r=>by
  obtain⟨v,c,rfl,b,a⟩:=r.inv_cons;cases b;rw[IsDs.ints a];rfl
abbrev TK(K:AM)(H H':Hp):Prop:=((∀a xs,SqT K H a xs->SqT K H' a xs)/\∀a xs,H a=AA (.tup xs)->H' a=AA (.tup xs))/\∀a o u,H a=AA (.frz o u)->(∀vs,u≠.lst vs)->H' a=AA (.frz o u)
def SqX.keep(h:SqX K H a xs)(k:TK K H H'):SqX K H' a xs:=h.elim (λh=>.inl (k.1.2 _ _ h)) λh=>.inr ⟨h.1,k.1.1 _ _ h.2⟩
def TK.refl:TK K H H:=⟨⟨λ_ _ h=>h,λ_ _ h=>h⟩,λ_ _ _ h _=>h⟩
def TK.trans(a:TK K H H')(b:TK K H' H2):TK K H H2:=⟨⟨λc xs h=>b.1.1 c xs (a.1.1 c xs h),λc xs h=>b.1.2 c xs (a.1.2 c xs h)⟩,λc o u h n=>b.2 c o u (a.2 c o u h n) n⟩
def TK.upd'(h:∀c,H p≠AA (.tup c))(e:∀o u,H p≠AA (.frz o u)):TK K H (upd H p o):=⟨⟨λa c q=>by
 rcases q with(q|⟨d,q⟩)|q
 ·exact .inl (.inl (by have b:a≠p:=(λz=>h c (z▸q));rwa[f9 b]))
 ·exact .inl (.inr ⟨d,by have b:a≠p:=(λz=>e _ _ (z▸q));rwa[f9 b]⟩)
 ·exact .inr q,λa c q=>by have b:a≠p:=(λz=>h c (z▸q));rwa[f9 b]⟩,λa d u q n=>by have b:a≠p:=(λz=>e _ _ (z▸q));rwa[f9 b]⟩
def TK.new(h:H p=AE):TK K H (upd H p o):=TK.upd' (by simp_all) (by grind)
def TK.putI{C dx}{xs}(h:H p=AA (.ins C dx xs)):TK K H (upd H p o):=TK.upd' (by simp_all) (by grind)
def TK.putD{xs}(h:H p=AA (.dK xs)):TK K H (upd H p o):=TK.upd' (by simp_all) (by grind)
def TK.put(h:H p=AA (.lst xs)):TK K H (upd H p o):=TK.upd' (by simp_all) (by grind)
def G7.mono{cv}(h:G7 H cv)(k:TK K H H'):G7 H' cv:=let⟨c,o,u,vs,q,t,e,d,a,b⟩:=h;⟨c,o,u,vs,q,t,e,k.2 _ _ _ d a,a,b⟩
theorem CloR.mono{f}{fd}{np}{N}{us}(h:CloR H f fd np N us)(k:TK K H H'):CloR H' f fd np N us:=by
 obtain⟨⟨o,u,q,g,p⟩,n,m,l⟩:=h;refine⟨⟨o,u,k.2 _ _ _ q g,g,p⟩,n.mono k,λx c hx=>?_,λi v hv=>?_⟩
 ·obtain⟨e,d,w,a,b,c⟩:=m x c hx;exact⟨e,d,w,k.2 _ _ _ a b,b,c⟩
 ·obtain⟨x,c,e,d,w,y,t,s,j,r⟩:=l i v hv;exact⟨x,c,e,d,w,y,t,k.2 _ _ _ s j,j,r⟩
theorem Q1.mono{f}{np}{N}{b}{us}(h:Q1 H f np N b us)(k:TK K H H'):Q1 H' f np N b us:=let⟨fd,c,a,b⟩:=h;⟨fd,c,a,b.mono k⟩
theorem IsD.mono(h:IsD K H d v)(k:TK K H H'):IsD K H' d v:=by
 induction h with
 |non=>exact .non
 |bl b=>exact .bl b
 |int i=>exact .int i
 |str x=>exact .str x
 |ref a=>exact .ref a
 |ktup h n=>exact .ktup h n
 |fn h=>exact .fn h
 |clo a b _ c=>exact .clo (a.mono k) b c
 |tup a b _ c=>exact .tup (a.keep k) b c
theorem IsDs.mono(h:IsDs K H ds vs)(k:TK K H H'):IsDs K H' ds vs:=⟨h.len,λi d v a b=>(h.at' i d v a b).mono k⟩
structure RelE(K:AM)(H:Hp)(env:i9)(σ:L2.St):Prop where
 len:env.length=σ.length
 at':∀(i:Nat)d,env[i]?=AA (AA d)->∃v,σ[i]?=AA (AA v)/\IsD K H d v
variable {env:i9} {st':Sto}
theorem RelE.mono(r:RelE K H env σ)(k:TK K H H'):RelE K H' env σ:=⟨r.len,λi d h=>let⟨v,a,b⟩:=r.at' i d h;⟨v,a,b.mono k⟩⟩
theorem RelE.set(r:RelE K H env σ)(h:IsD K H d v)i:RelE K H (env.set i (AA d)) (σ.set i (AA v)):=⟨by simp[r.len],λj e q=>by
 rw[Fb]at q ⊢
 by_cases hi:i=j
 ·rw[if_pos hi]at q ⊢
  split at q
  ·rename_i a;rw[<-r.len,if_pos a];cases q;exact⟨v,rfl,h⟩
  ·cases q
 ·rw[if_neg hi]at q ⊢;exact r.at' j e q⟩
structure IsKs(K:AM)(H:Hp)(kvs:List (Key×D))(vs:List (Key×V)):Prop where
 ks:kvs.map (·.1)=vs.map (·.1)
 ds:IsDs K H (kvs.map (·.2)) (vs.map (·.2))
theorem IsKs.mono{kvs}{vs}(h:IsKs K H kvs vs)(k:TK K H H'):IsKs K H' kvs vs:=⟨h.ks,h.ds.mono k⟩
theorem IsKs.inv_cons{e}{kvs}{vs}(h:IsKs K H (e::kvs) vs):∃v a,vs=(e.1,v)::a/\IsD K H e.2 v/\IsKs K H kvs a:=by
 cases vs with
 |nil=>have:=h.ks;simp at this
 |cons f a=>
  obtain⟨k,v⟩:=f;have b:=h.ks;simp at b;have m:=h.ds;obtain⟨n,g,c,l,j⟩:=m.inv_cons;simp at c;obtain⟨rfl,rfl⟩:=c;exact⟨v,a,by rw[b.1],l,b.2,j⟩
theorem IsKs.look:∀{a}{vs}(h:IsKs K H a vs)k,P9 a k=AE/\r8 vs k=AE\/∃d v,P9 a k=AA d/\r8 vs k=AA v/\IsD K H d v
 |[],vs,h,k=>by
  have:=by have:=h.ks;simpa using this.symm
  subst this;exact .inl ⟨rfl,rfl⟩
 |e::a,vs,h,k=>by
  obtain⟨v,f,rfl,g,b⟩:=h.inv_cons;unfold P9 r8;rw[Bk,Bk]
  by_cases c:e.1=k
  ·simp_all
  ·simp only[c,decide_false];exact IsKs.look b k
structure IsPs(K:AM)(H:Hp)(kvs:List (Ac×D))(vs:List (Ac×V)):Prop where
 ks:kvs.map (·.1)=vs.map (·.1)
 ds:IsDs K H (kvs.map (·.2)) (vs.map (·.2))
theorem IsPs.nil:IsPs K H [] []:=⟨rfl,.nil⟩
theorem IsPs.mono{vs}(h:IsPs K H kvs vs)(k:TK K H H'):IsPs K H' kvs vs:=⟨h.ks,h.ds.mono k⟩
theorem IsPs.inv_cons{e}{vs}(h:IsPs K H (e::kvs) vs):∃v a,vs=(e.1,v)::a/\IsD K H e.2 v/\IsPs K H kvs a:=by
 cases vs with
 |nil=>have:=h.ks;simp at this
 |cons f a=>
  obtain⟨k,v⟩:=f;have b:=h.ks;simp at b;have m:=h.ds;obtain⟨n,g,c,l,j⟩:=m.inv_cons;simp at c;obtain⟨rfl,rfl⟩:=c;exact⟨v,a,by rw[b.1],l,b.2,j⟩
theorem IsPs.cons{k}{d}{vs}(i:IsD K H d v)(h:IsPs K H kvs vs):IsPs K H ((k,d)::kvs) ((k,v)::vs):=⟨by simp[h.ks],by simpa using IsDs.cons i h.ds⟩
theorem IsPs.look:∀{a}{vs}(h:IsPs K H a vs)k,E8 a k=AE/\r8 vs k=AE\/∃d v,E8 a k=AA d/\r8 vs k=AA v/\IsD K H d v
 |[],vs,h,k=>by
  have:=by have:=h.ks;simpa using this.symm
  subst this;exact .inl ⟨rfl,rfl⟩
 |e::a,vs,h,k=>by
  obtain⟨v,f,rfl,g,b⟩:=h.inv_cons;unfold E8 r8;rw[Bk,Bk]
  by_cases c:e.1=k
  ·simp_all
  ·simp only[c,decide_false];exact IsPs.look b k
theorem IsPs.any:∀{a}{vs}(h:IsPs K H a vs)k,(a.any λkv=>AB (kv.1=k))=vs.any λkv=>AB (kv.1=k)
 |[],vs,h,k=>by
  have:=by have:=h.ks;simpa using this.symm
  subst this;rfl
 |e::a,vs,h,k=>by
  obtain⟨v,c,rfl,d,b⟩:=h.inv_cons;rw[FQ,FQ,IsPs.any b k]
theorem IsPs.repl{d}(i:IsD K H d v)k:∀{a}{vs}(h:IsPs K H a vs),IsPs K H (a.map λkv=>if kv.1=k then(kv.1,d)else kv) (vs.map λkv=>if kv.1=k then(kv.1,v)else kv)
 |[],vs,h=>by
  have:=by have:=h.ks;simpa using this.symm
  subst this;exact .nil
 |e::a,vs,h=>by
  obtain⟨u,g,rfl,f,c⟩:=h.inv_cons;obtain⟨x,y⟩:=e;rw[Ag,Ag];by_cases b:x=k
  ·rw[if_pos b,if_pos b];exact IsPs.cons i (IsPs.repl i k c)
  ·rw[if_neg b,if_neg b];exact IsPs.cons f (IsPs.repl i k c)
theorem IsPs.snoc{d}(i:IsD K H d v)k:∀{a}{vs}(h:IsPs K H a vs),IsPs K H (a++[(k,d)]) (vs++[(k,v)])
 |[],vs,h=>by
  have:=by have:=h.ks;simpa using this.symm
  subst this;exact IsPs.cons i .nil
 |e::a,vs,h=>by
  obtain⟨u,f,rfl,c,b⟩:=h.inv_cons;exact IsPs.cons c (IsPs.snoc i k b)
def IsPs.put{vs}(h:IsPs K H kvs vs){d}(i:IsD K H d v)k:IsPs K H (X5 kvs k d) (z0 vs k v):=by
 unfold X5 z0;rw[h.any k]
 by_cases q:(vs.any λkv=>AB (kv.1=k))=AC
 ·rw[if_pos q,if_pos q];exact IsPs.repl i k h
 ·rw[if_neg q,if_neg q];exact IsPs.snoc i k h
def IsPs.len{vs}(h:IsPs K H kvs vs):=by
 have:=congrArg Gw h.ks;simpa using this
structure IsFs(K:AM)(H:Hp)(fs:List (Str×D))(vs:List (Str×V)):Prop where
 ks:fs.map (·.1)=vs.map (·.1)
 ds:IsDs K H (fs.map (·.2)) (vs.map (·.2))
theorem IsFs.nil:IsFs K H [] []:=⟨rfl,.nil⟩
theorem IsFs.mono{fs}{vs}(h:IsFs K H fs vs)(k:TK K H H'):IsFs K H' fs vs:=⟨h.ks,h.ds.mono k⟩
theorem IsFs.inv_cons{e}{fs}{vs}(h:IsFs K H (e::fs) vs):∃v a,vs=(e.1,v)::a/\IsD K H e.2 v/\IsFs K H fs a:=by
 cases vs with
 |nil=>have:=h.ks;simp at this
 |cons f a=>
  obtain⟨k,v⟩:=f;have b:=h.ks;simp at b;have m:=h.ds;obtain⟨n,g,c,l,j⟩:=m.inv_cons;simp at c;obtain⟨rfl,rfl⟩:=c;exact⟨v,a,by rw[b.1],l,b.2,j⟩
theorem IsFs.cons{k}{d}{fs}{vs}(h:IsD K H d v)(r:IsFs K H fs vs):IsFs K H ((k,d)::fs) ((k,v)::vs):=⟨by simp only[Ag,r.ks],(.cons h r.ds)⟩
theorem IsFs.length{fs}{vs}(h:IsFs K H fs vs):fs.length=vs.length:=by simpa using h.ds.len
theorem IsFs.look:∀{a}{vs}(h:IsFs K H a vs)k,(a.lookup k=AE/\vs.lookup k=AE)\/∃d v,a.lookup k=AA d/\vs.lookup k=AA v/\IsD K H d v
 |[],vs,h,k=>by
  have:=by have:=h.ks;simpa using this.symm
  subst this;exact .inl ⟨rfl,rfl⟩
 |e::a,vs,h,k=>by
  obtain⟨v,f,rfl,c,b⟩:=h.inv_cons;obtain⟨g,d⟩:=e;rw[EI,EI];cases hk:k==g with
  |true=>exact .inr ⟨d,v,rfl,rfl,c⟩
  |false=>exact IsFs.look b k
theorem IsFs.put:∀{b}{vs}(h:IsFs K H b vs){d}{v}(i:IsD K H d v)f,IsFs K H (l7 f d b) (z7 f v vs)
 |[],vs,h,d,v,i,f=>by
  have:=by have:=h.ks;simpa using this.symm
  subst this;exact .cons i .nil
 |e::b,vs,h,d,v,i,f=>by
  obtain⟨w,k,rfl,j,c⟩:=h.inv_cons;obtain⟨g,x⟩:=e;unfold l7 z7
  by_cases a:g=f
  ·rw[if_pos a,if_pos a];exact .cons i c
  ·rw[if_neg a,if_neg a];exact .cons j (IsFs.put c i f)
abbrev ObR(K:AM)(H:Hp)(a:AI):Ob->Prop
 |.lst ds=>∃vs,H a=AA (.lst vs)/\IsDs K H ds vs
 |.fro ds=>∃vs,Rd H a (.lst vs)/\IsDs K H ds vs
 |.dct kvs=>∃vs,H a=AA (.dK vs)/\IsKs K H kvs vs
 |.dtt kvs=>∃vs,H a=AA (.dT vs)/\IsPs K H kvs vs/\Tbs.kt=AG
 |.ins c fs=>∃C dx vs,H a=AA (.ins C dx vs)/\Ae K AK c=AA (AA (.ref C))/\IsFs K H fs vs
 |.exc c=>∃C,H a=AA (.ext λh=>∃o,h.get? a=AA o/\o.cls=.ref C/\o.dict=AE/\∃vs,o.data=.fields vs)/\Ae K AK c=AA (AA (.ref C))
 |.exa c n=>∃C dx od u tk,H a=AA (.ext λh=>∃o,h.get? a=AA o/\o.cls=.ref C/\o.dict=AA dx/\∃vs,o.data=.fields vs)/\Ae K AK c=AA (AA (.ref C))/\H dx=AA (.frz od u)/\(∀vs,u≠.lst vs)/\Fw "at" od=AA (AA (.int n tk))
structure TabOk(H:Hp)(ps:Array AF):Prop where
 tr:Ea ps.toList
 co:∀pos cv,Ga pos ps.toList=AA cv->G7 H cv
abbrev z5(H:Hp):Prop:=∀P∈Tbs.ps,∃ps,H P=AA (.tbl ps)/\TabOk H ps
def z5.stay(h:z5 H)(k:TK K H H')(t:∀a b,H a=AA (.tbl b)->H' a=AA (.tbl b)):z5 H':=λP hP=>by
 obtain⟨b,e,o⟩:=h P hP;exact⟨b,t P b e,o.tr,λpos cv hc=>(o.co pos cv hc).mono k⟩
structure RelS(K:AM)(st:Sto)(H:Hp):Prop where
 ob:∀a o,st a=AA o->ObR K H a o
 tb:z5 H
def RelS.free(r:RelS K st H)(h:H p=AE):st p=AE:=by
 cases q:st p with
 |none=>rfl
 |some o=>
  have z:=r.ob p o q;cases o with
  |lst ds=>obtain⟨vs,a,_⟩:=z;rw[h]at a;cases a
  |fro ds=>
   obtain⟨vs,a|⟨l,a⟩,_⟩:=z
   ·simp_all
   ·simp_all
  |dct b=>obtain⟨vs,a,_⟩:=z;rw[h]at a;cases a
  |dtt b=>obtain⟨vs,a,_⟩:=z;rw[h]at a;cases a
  |ins c m=>obtain⟨C,s,vs,a,_⟩:=z;rw[h]at a;cases a
  |exc c=>obtain⟨C,a,_⟩:=z;rw[h]at a;cases a
  |exa c n=>obtain⟨C,_,_,_,_,a,_⟩:=z;rw[h]at a;cases a
def RelS.sub(r:RelS K st' H)(s:Sub st st'):RelS K st H:=⟨λa o h=>r.ob a o (s a o h),r.tb⟩
def ObR.stay{o:Ob}(z:ObR K H a o)(k:TK K H H')(e:H' a=H a):ObR K H' a o:=by
 cases o with
 |lst ds=>obtain⟨vs,q,w⟩:=z;exact⟨vs,by rw[e];exact q,w.mono k⟩
 |fro ds=>
  obtain⟨vs,q|⟨g,q⟩,w⟩:=z
  ·exact⟨vs,.inl (by rw[e];exact q),w.mono k⟩
  ·exact⟨vs,.inr ⟨g,by rw[e];exact q⟩,w.mono k⟩
 |dct b=>obtain⟨vs,q,w⟩:=z;exact⟨vs,by rw[e];exact q,w.mono k⟩
 |dtt b=>obtain⟨vs,q,w,t⟩:=z;exact⟨vs,by rw[e];exact q,w.mono k,t⟩
 |ins c s=>obtain⟨C,d,vs,q,n,w⟩:=z;exact⟨C,d,vs,by rw[e];exact q,n,w.mono k⟩
 |exc c=>obtain⟨C,q,n⟩:=z;exact⟨C,by rw[e];exact q,n⟩
 |exa c n=>obtain⟨C,d,f,u,tk,q,n,w,x,y⟩:=z;exact⟨C,d,f,u,tk,by rw[e];exact q,n,k.2 _ _ _ w x,x,y⟩
theorem RelS.stay(r:RelS K st H)(k:TK K H H')(c:∀a o,st a=AA o->H' a=H a)(t:∀a b,H a=AA (.tbl b)->H' a=AA (.tbl b)):RelS K st H':=⟨λa o h=>(r.ob a o h).stay k (c a o h),r.tb.stay k t⟩
def af7(h:∀b,H p≠AA (.tbl b)):∀a b,H a=AA (.tbl b)->upd H p o a=AA (.tbl b):=λa b e=>by
 have c:a≠p:=λz=>h b ((z▸e));rwa[f9 c]
def a76(h:H p=AE):∀a b,H a=AA (.tbl b)->upd H p o a=AA (.tbl b):=af7 (by grind)
theorem RelS.new(r:RelS K st H)(h:H p=AE):RelS K st (upd H p o):=r.stay (TK.new h) (λa u e=>f9 λz=>by
 rw[z,r.free h]at e;cases e) (a76 h)
def RelS.putAny(r:RelS K st H){o'}(tk:TK K H (upd H p o'))(w:ObR K (upd H p o') p ob)(t:∀g,H p≠AA (.tbl g)):RelS K (b0 st p ob) (upd H p o'):=by
 have f:RelS K (λb=>if b=p then AE else st b) H:=⟨λb u q=>by
  split at q
  ·cases q
  ·exact r.ob b u q,r.tb⟩
 have d:=f.stay tk (λb u q=>f9 λz=>by
  grind) (af7 t)
 refine⟨λa o e=>?_,d.tb⟩
 by_cases c:a=p
 ·subst c;rw[f7]at e;cases e;exact w
 ·rw[B6 c]at e;exact d.ob a o (by rwa[if_neg c])
def RelS.putNew(r:RelS K st H)(h:H p=AE)(w:IsDs K H ds vs):RelS K (b0 st p (.lst ds)) (upd H p (.lst vs)):=
 r.putAny (TK.new h) ⟨vs,o0,w.mono (TK.new h)⟩ (by simp_all)
def RelS.putNewD(r:RelS K st H){kvs}{ks}(h:H p=AE)(w:IsKs K H kvs ks):RelS K (b0 st p (.dct kvs)) (upd H p (.dK ks)):=
 r.putAny (TK.new h) ⟨ks,o0,w.mono (TK.new h)⟩ (by simp_all)
def RelS.putOld(r:RelS K st H)(h:H p=AA (.lst xs))(w:IsDs K H ds vs):RelS K (b0 st p (.lst ds)) (upd H p (.lst vs)):=
 r.putAny (TK.put h) ⟨vs,o0,w.mono (TK.put h)⟩ (by grind)
theorem RelS.lst(r:RelS K st H)(h:st a=AA (.lst ds)):∃vs,H a=AA (.lst vs)/\IsDs K H ds vs:=r.ob a _ h
theorem RelS.dct(r:RelS K st H){kvs}(h:st a=AA (.dct kvs)):∃vs,H a=AA (.dK vs)/\IsKs K H kvs vs:=r.ob a _ h
theorem RelS.ins(r:RelS K st H){c}{fs}(h:st a=AA (.ins c fs)):∃C b vs,H a=AA (.ins C b vs)/\Ae K AK c=AA (AA (.ref C))/\IsFs K H fs vs:=r.ob a _ h
def RelS.rd(r:RelS K st H)(h:rdS st a ds):∃vs,SqL K H a vs/\IsDs K H ds vs:=by
 rcases h with h|h
 ·obtain⟨vs,a,b⟩:=r.ob a _ h;exact⟨vs,.inl (.inl a),b⟩
 ·obtain⟨vs,a,b⟩:=r.ob a _ h;exact⟨vs,.inl a,b⟩
def RelS.rdR(r:RelS K st H)(h:rdS st a ds):∃vs,Rd H a (.lst vs)/\IsDs K H ds vs:=by
 rcases h with h|h
 ·obtain⟨vs,a,b⟩:=r.ob a _ h;exact⟨vs,.inl a,b⟩
 ·obtain⟨vs,a,b⟩:=r.ob a _ h;exact⟨vs,a,b⟩
end
abbrev TbE(o o':HO):Prop:=o'=o\/∃p p',o=.tbl p/\o'=.tbl p'
def TbE.trans{a b c}(x:TbE a b)(y:TbE b c):TbE a c:=by
 rcases x with rfl|⟨p,e,rfl,rfl⟩
 ·exact y
 ·rcases y with rfl|⟨q,d,_,rfl⟩
  ·exact .inr ⟨p,e,rfl,rfl⟩
  ·exact .inr ⟨p,d,rfl,rfl⟩
abbrev Ev(st:Sto)(H:Hp)(st':Sto)(H':Hp):Prop:=∀a o,H a=AA o->st a=AE->(∃o',H' a=AA o'/\TbE o o')/\st' a=AE
section
variable {K:AM} {st1 st2:Sto} {H1 H2:Hp}
def Ev.get(e:Ev st H st1 H1)(h:H a=AA o)(k:st a=AE)(n:∀p,o≠.tbl p):H1 a=AA o/\st1 a=AE:=by
 obtain⟨⟨c,h',t⟩,b⟩:=e a o h k
 rcases t with rfl|⟨p,_,rfl,_⟩
 ·exact⟨h',b⟩
 ·exact absurd rfl (n p)
def Ev.refl:Ev st H st H:=λ_ o h k=>⟨⟨o,h,.inl rfl⟩,k⟩
theorem Ev.trans(a:Ev st H st1 H1)(b:Ev st1 H1 st2 H2):Ev st H st2 H2:=λc o h k=>by
 obtain⟨⟨f,h',t⟩,y⟩:=a c o h k;obtain⟨⟨e,g,d⟩,z⟩:=b c f h' y;exact⟨⟨e,g,t.trans d⟩,z⟩
def RelS.no(r:RelS K st H)(h:H a=AA o)(i:∀vs,o≠.lst vs)(m:∀u vs,o≠.frz u (.lst vs))(l:∀vs,o≠.dK vs)(k:∀C e vs,o≠.ins C e vs)(j:∀vs,o≠.dT vs)(g:∀f,o≠.ext f:=by exact λ_=>nofun):st a=AE:=by
 cases z:st a with
 |none=>rfl
 |some ob=>
  have w:=r.ob a ob z;cases ob with
  |lst ds=>obtain⟨vs,b,_⟩:=w;rw[h]at b;cases b;exact absurd rfl (i vs)
  |fro ds=>
   obtain⟨vs,b|⟨u,b⟩,_⟩:=w
   ·rw[h]at b;cases b;exact absurd rfl (i vs)
   ·rw[h]at b;cases b;exact absurd rfl (m u vs)
  |dct d=>obtain⟨vs,b,_⟩:=w;rw[h]at b;cases b;exact absurd rfl (l vs)
  |dtt d=>obtain⟨vs,b,_⟩:=w;rw[h]at b;cases b;exact absurd rfl (j vs)
  |ins c A=>obtain⟨C,e,vs,b,_⟩:=w;rw[h]at b;cases b;exact absurd rfl (k C e vs)
  |exc c=>obtain⟨C,b,_⟩:=w;rw[h]at b;cases b;exact absurd rfl (g _)
  |exa c n=>obtain⟨C,_,_,_,_,b,_⟩:=w;rw[h]at b;cases b;exact absurd rfl (g _)
def Ev.tk(e:Ev st H st1 H1)(r:RelS K st H):TK K H H1:=⟨⟨λa xs q=>by
 rcases q with(q|⟨a,q⟩)|q
 ·exact .inl (.inl (e.get q (r.no q (λ_ z=>by cases z) (λ_ _ z=>by cases z) (λ_ z=>by cases z) (λ_ _ _ z=>by cases z) (λ_ z=>by cases z)) λ_ z=>by cases z).1)
 ·exact .inl (.inr ⟨a,(e.get q (r.no q (λ_ z=>by cases z) (λ_ _ z=>by cases z) (λ_ z=>by cases z) (λ_ _ _ z=>by cases z) (λ_ z=>by cases z)) (λ_ z=>by cases z)).1⟩)
 ·exact .inr q,λa xs q=>(e.get q (r.no q (λ_ z=>by cases z) (λ_ _ z=>by cases z) (λ_ z=>by cases z) (λ_ _ _ z=>by cases z) λ_ z=>by cases z) λ_ z=>by cases z).1⟩,λa o u q n=>(e.get q (r.no q (λ_ z=>by cases z) (λ_ vs z=>by grind) (λ_ z=>by cases z) (λ_ _ _ z=>by cases z) (λ_ z=>by cases z)) λ_ z=>by cases z).1⟩
def Ev.new(h:H p=AE):Ev st H st (upd H p o):=λa u e k=>⟨⟨u,f9 (o7 e h)▸e,.inl rfl⟩,k⟩
def Ev.newS(h:H p=AE):Ev st H (b0 st p ob) (upd H p o):=λa u e k=>⟨⟨u,f9 (o7 e h)▸e,.inl rfl⟩,B6 (o7 e h)▸k⟩
def Ev.put{ob'}(h:st p=AA ob'):Ev st H (b0 st p ob) (upd H p o):=λa u e k=>by
 have b:a≠p:=λz=>by grind
 exact⟨⟨u,f9 b▸e,.inl rfl⟩,B6 b▸k⟩
def Ev.drop(s:Sub st2 st1)(e:Ev st H st1 H1):Ev st H st2 H1:=λa o h k=>by
 obtain⟨x,y⟩:=e a o h k;refine⟨x,?_⟩;cases z:st2 a with
 |none=>rfl
 |some u=>rw[s a u z]at y;cases y
end
abbrev w6(K:AM)(st:Sto)(H:Hp)(Qd:DK)(Q:VK):Prop:=∀v d H' st',Ev st H st' H'->IsD K H' d v->RelS K st' H'->Qd d st'->Q v H'
abbrev up(K:AM)(t:DT):TE:=λσ H Q=>∃env st Qd,RelE K H env σ/\RelS K st H/\t env st Qd/\w6 K st H Qd Q
abbrev upB(K:AM)(t:DB):TT:=λσ H Q=>∃env st Qd,RelE K H env σ/\RelS K st H/\t env st Qd/\∀b H' st',Ev st H st' H'->RelS K st' H'->Qd b st'->Q b H'
abbrev upA(K:AM)(n:Nat)(t:DA):TA:=λσ H Q=>∃env st Qd,RelE K H env σ/\RelS K st H/\t env st Qd/\∀vs ds H' st',Ev st H st' H'->IsDs K H' ds vs->ds.length=n->RelS K st' H'->Qd ds st'->Q vs H'
def _root_.L2.PE.imp{t t'}(h:PE X x t)(i:∀a H Q,t' a H Q->t a H Q):PE X x t':=λpins s a H Q I q=>h pins s a H Q I (i a H Q q)
def _root_.L2.PT.imp{t t'}(h:PT X x t)(i:∀a H Q,t' a H Q->t a H Q):PT X x t':=λpins s a H Q I q=>h pins s a H Q I (i a H Q q)
def _root_.L2.PW.imp{t t'}(h:PW X x t)(i:∀a H Q,t' a H Q->t a H Q):PW X x t':=λw pins s a H Q I q=>h w pins s a H Q I (i a H Q q)
def _root_.L2.PA.imp{x}{t t'}(h:PA X x t)(i:∀a H Q,t' a H Q->t a H Q):PA X x t':=λpos pins s a H Q I q=>h pos pins s a H Q I (i a H Q q)
def _root_.L2.PSs.imp{x}{t t'}(h:PSs X x t)(i:∀D a H,t' D a H->t D a H):PSs X x t':=λpins s a H D I q=>h pins s a H D I (i D a H q)
def _root_.L2.PS.imp{x}{t t'}(h:PS X x t)(i:∀D a H,t' D a H->t D a H):PS X x t':=λpins s a H D I q=>h pins s a H D I (i D a H q)
def w6.after{K}{st1}{H1}(p:w6 K st H Qd Q)(e:Ev st H st1 H1):w6 K st1 H1 Qd Q:=λv d H2 st2 e2=>p v d H2 st2 (e.trans e2)
def w6.here{K}{d}(p:w6 K st H Qd Q)i(r)q:=p v d H st Ev.refl i r q
def w6.newL{K}(p:w6 K st H Qd Q)(r:RelS K st H)(w:IsDs K H ds vs)(q:∀p,st p=AE->Qd (.ref p) (b0 st p (.lst ds))):∀l,H l=AE->Q (.ref l) (upd H l (.lst vs)):=λl hl=>
 p _ (.ref l) _ (b0 st l (.lst ds)) (Ev.newS hl) (.ref l) (r.putNew hl w) (q l (r.free hl))
def w6.newT{K}(p:w6 K st H Qd Q)(r:RelS K st H)(w:IsDs K H ds vs)(q:Qd (.tup ds) st):∀l,H l=AE->Q (.ref l) (upd H l (.tup vs)):=λl hl=>
 p _ (.tup ds) _ st (Ev.new hl) (IsD.mk (SqX.of o0) (w.mono (TK.new hl))) (r.new hl) q
def up1{K}{t}{f:D->Sto->DK->Prop}{R:V->Hp->Prop}(h:up K (λenv st Q=>t env st λd st1=>f d st1 Q) σ H Q)
  (k:∀v d b a c,IsD K b d v->RelS K a b->f d a c->w6 K a b c Q->R v b):up K t σ H R:=by
 obtain⟨env,st,c,j,i,e,g⟩:=h;exact⟨env,st,_,j,i,e,λv d b a ev is rs q=>k v d b a c is rs q (g.after ev)⟩
def up2{K}{t u}{f:D->D->Sto->DK->Prop}{R:V->V->Hp->Prop}(h:up K (λenv st Q=>t env st λd st1=>u env st1 λe st2=>f d e st2 Q) σ H Q)
  (k:∀v w d e b a c,IsD K b d v->IsD K b e w->RelS K a b->f d e a c->w6 K a b c Q->R v w b):up K t σ H λv H1=>up K u σ H1 λw H2=>R v w H2:=by
 obtain⟨env,st,c,i,g,j,l⟩:=h;exact⟨env,st,_,i,g,j,λv d b a ev is rs q=>⟨env,a,_,i.mono (ev.tk g),rs,q,λw e H2 st2 ev2 is2 rs2 q2=>
  k v w d e H2 st2 c (is.mono (ev2.tk rs)) is2 rs2 q2 ((l.after ev).after ev2)⟩⟩
def av3{K}{n}{t}{f:List D->Sto->DK->Prop}{R}(h:up K (λenv st Q=>t env st λds st1=>f ds st1 Q) σ H Q)
  (k:∀vs ds b a c,IsDs K b ds vs->ds.length=n->RelS K a b->f ds a c->w6 K a b c Q->R vs b):upA K n t σ H R:=by
 obtain⟨env,st,c,i,g,d,e⟩:=h;exact⟨env,st,_,i,g,d,λvs ds b a ev is hl rs q=>k vs ds b a c is hl rs q (e.after ev)⟩
def cz7{t}(h:PE X x (up X.K t))(f:∀a,IH x X.env a=do let v <-a;Ho x.pos;holding [v] (truthy v)):
  PT X x (upB X.K λenv st Q=>t env st λd st'=>∃b,d=.bl b/\Q b st'):=PT.imp (cn7 h f) λσ H Q q=>by
 obtain⟨env,st,j,i,g,c,e⟩:=q;refine⟨env,st,_,i,g,c,λv d H' st' ev is rs q=>?_⟩;obtain⟨b,rfl,q⟩:=q;cases is;exact⟨b,rfl,e b H' st' ev rs q⟩
end
section
variable [Tbs]
mutual
theorem P6:∀d:D,d.pure=AC->d.py.canLay0=AC
 |.non,_=>rfl
 |.bl _,_=>rfl
 |.int _,_=>rfl
 |.str _,h=>h
 |.tup ds,h=>by show DQ (D.pys ds)=AC;exact ap5 ds h
 |.ref _,h=>nomatch h
 |.fn _,h=>nomatch h
 |.clo _ _ _ _,h=>nomatch h
 |.ktup _,h=>nomatch h
theorem ap5:∀ds:List D,D.pures ds=AC->DQ (D.pys ds)=AC
 |[],_=>rfl
 |d::r,h=>by
  have h':d.pure=AC/\D.pures r=AC:=by simpa[D.pures]using h
  show(d.py.canLay0&&DQ (D.pys r))=AC;rw[P6 d h'.1,ap5 r h'.2];rfl
end
theorem az0:∀{ds},D.pures ds=AC->∀d∈ds,d.pure=AC
 |[],_,d,h=>by cases h
 |e::r,h,d,a=>by
  have h':=by simpa[D.pures]using h
  rcases AR.mp a with z|z
  ·simp_all
  ·exact az0 h'.2 d z
section
variable {X:Cx} {pins:List (AI×Obj)} {σ:L2.St} {H:Hp} {s:AJ}
def O9(I:L2.Inv X pins σ H s){d:D}{v:V}(h:IsD X.K H d v):∀{u:AF},d.pure=AC->i7 v u->∃l,Reads s.heap u d.py l:=by
 induction h with
 |non=>intro u _ r;cases r;exact⟨_,.none⟩
 |bl b=>intro u _ r;cases r;exact⟨_,.bool b⟩
 |int i=>intro u _ r;obtain⟨t,rfl⟩:=r;exact⟨_,.int i t⟩
 |str x=>intro u _ r;obtain⟨t,rfl⟩:=r;exact⟨_,.str x t⟩
 |ref a=>intro u h;cases h
 |fn _=>intro u h;cases h
 |clo _ _ _ _=>intro u h;cases h
 |ktup _ _=>intro u h;cases h
 |@tup a ds vs hq hl hat ih=>
  intro u hp r;cases r;obtain⟨z,rv,⟨o,ho,hc,n,hd⟩,hz⟩:=I.tuple hq.sqt;have C:∀(f:List D)(c:List V)(j:List AF),(∀(i:Nat)d v,f[i]?=AA d->c[i]?=AA v->∀{u:AF},d.pure=AC->i7 v u->∃l,Reads s.heap u d.py l)->f.length=c.length->D.pures f=AC->g9 c j->∃l,ReadsAll s.heap j (D.pys f) l:=by
   intro f
   induction f with
   |nil=>intro c j _ k _ q;cases c with
    |nil=>cases q;exact⟨[],.nil⟩
    |cons a b=>simp at k
   |cons e es A=>
    intro c j m k B q;cases c with
    |nil=>simp at k
    |cons w G=>
     have y:e.pure=AC/\D.pures es=AC:=by simpa[D.pures]using B
     cases q with
     |cons q1 q2=>
      obtain⟨l,E⟩:=m 0 e w rfl rfl y.1 q1;obtain⟨bs,rb⟩:=A G _ (λi d v a b=>m (i+1) d v (by simpa using a) (by simpa using b)) (by simpa using k) y.2 q2;exact⟨l++bs,.cons E rb⟩
  obtain⟨l,E⟩:=C ds vs z ih hl hp rv;exact⟨l,.tuple ho hc hd (by simp_all)⟩
def ba8{A:BG}{a b}(c:A.units+200<CG)(h:FB a b<=150):A.units+min a b<CG:=by
 lia
def ch5(i:X.A.units+200<CG):OpR X (Co .Eq) λx y H Q=>∃d e,IsD X.K H d x/\IsD X.K H e y/\d.pure=AC/\e.pure=AC/\FB (o4 d) (o4 e)<=150/\Q (.bl (deq d e)) H:=by
 intro a s m H x y v u Q I c b h;obtain⟨d,e,l,k,p1,p2,j,q⟩:=h;obtain⟨n,g⟩:=O9 I l p1 c;obtain⟨bs,f⟩:=O9 I k p2 b;exact SeqAt.rcAt_reads g f (P6 d p1) (P6 e p2) (ba8 i j) X.prog X.w _ _ ⟨.bl (deq d e),H,I,rfl,q⟩
def cr4(i:X.A.units+200<CG):OpR X (Co .NotEq) λx y H Q=>∃d e,IsD X.K H d x/\IsD X.K H e y/\d.pure=AC/\e.pure=AC/\FB (o4 d) (o4 e)<=150/\Q (.bl (!deq d e)) H:=by
 intro a s m H x y v u Q I c b h;obtain⟨d,e,l,k,p1,p2,j,q⟩:=h;obtain⟨n,g⟩:=O9 I l p1 c;obtain⟨bs,f⟩:=O9 I k p2 b;exact SeqAt.rcNeAt_reads g f (P6 d p1) (P6 e p2) (ba8 i j) X.prog X.w _ _ ⟨.bl !deq d e,H,I,rfl,q⟩
theorem bb0:∀ds(x),((D.pys ds).any λy=>As y x.py)=ds.any λy=>deq y x
 |[],_=>rfl
 |d::r,x=>by
  show(As d.py x.py||(D.pys r).any _)=(deq d x||r.any _);rw[bb0 r x];rfl
def bc5{A:BG}{a b}(c:A.units+200<CG)(h:b<=150):A.units+1+min a b<CG:=by
 have:min a b<=b:=FY _ _;lia
def bh2(k:X.A.units+200<CG):OpR X (Co .In) λx y H Q=>∃d a,IsD X.K H d x/\IsD X.K H (.tup a) y/\d.pure=AC/\D.pures a=AC/\o4 d<=150/\Q (.bl (a.any λe=>deq e d)) H:=by
 intro c s o H x y v u Q I g f h;obtain⟨d,a,n,m,p1,p2,l,q⟩:=h;obtain⟨p,j⟩:=O9 I n p1 g;obtain⟨bs,i⟩:=O9 I m p2 f;have b:=i;exact SeqAt.in_tuple_reads b j (ap5 a p2) (P6 d p1) (bc5 k l) (by rw[bb0];exact⟨.bl _,H,I,rfl,q⟩)
end
end
section
variable [Tbs]
variable{x:AS}{v:V}{i:Int}{es:List AS}{n:Nat}{H:Hp}{o:EO}
section
variable {X:Cx} {a b c:AS} {ta tb tc:DT} {pos:Pos}
def ai9{d}(h:PE X x (tC v))(i:∀H,IsD X.K H d v):PE X x (up X.K λ_ st Q=>Q d st):=PE.imp h λσ H Q q=>by
 obtain⟨env,st,f,e,c,a,b⟩:=q;exact b.here (i H) c a
def cp8{i:Nat}{x}(j:X.N[i]?=AA x)(c:Vis X.env.scope x)(g:(x=="__debug__")=AG)(a:(x=="__classdict__")=AG):PE X (.Name x pos) (up X.K λenv st Q=>∃d,env[i]?=AA (AA d)/\Q d st):=
 PE.imp (M0 j c g a) λσ H Q q=>by
  obtain⟨env,st,n,k,h,⟨d,m,e⟩,f⟩:=q;obtain⟨v,l,b⟩:=k.at' i d m;exact⟨v,l,f.here b h e⟩
def n8{xs}{env}(h:∀e p,x≠.Starred e p):Aj (x::xs) env=(AG,eval x env)::Aj xs env:=by
 cases x<;>first|rfl|exact absurd rfl (h _ _)
def be5:PA X [] (upA X.K 0 λ_ st Q=>Q [] st):=PA.imp W2 λσ H Q q=>by
 obtain⟨env,st,e,d,c,a,b⟩:=q;exact b [] [] H st Ev.refl .nil rfl c a
def V8{t}(j:PE X a (up X.K ta))(g:PA X es (upA X.K n t))(h:∀e p,a≠.Starred e p):PA X (a::es) (upA X.K (n+1) λenv st Q=>ta env st λd st1=>t env st1 λds st2=>Q (d::ds) st2):=
 PA.imp (J8 j g (n8 h)) λσ H Q q=>by
  obtain⟨env,st,k,c,b,f,i⟩:=q;exact⟨env,st,_,c,b,f,λv d H1 st1 ev is rs q1=>⟨env,st1,_,c.mono (ev.tk b),rs,q1,λvs ds H2 st2 ev2 is2 hl=>i (v::vs) (d::ds) H2 st2 (ev.trans ev2) (.cons (is.mono (ev2.tk rs)) is2) (by simp[hl])⟩⟩
def co4{k}{t}(h:PA X es (upA X.K n t))(a:n<=1000):PE X (.Tuple es k pos) (up X.K λenv st Q=>t env st λds st1=>Q (.tup ds) st1):=
 PE.imp (ct4 h) λσ H Q q=>av3 q λvs ds H' st' Qd is hl rs ht hq=>⟨by rw[<-is.len,hl];exact HB (az8 a),hq.newT rs is ht⟩
def ct6{t}(h:PA X es (upA X.K n t))(a:n<=1000):PE X (.List es pos) (up X.K λenv st Q=>t env st λds st1=>∀p,st1 p=AE->Q (.ref p) (b0 st1 p (.lst ds))):=
 PE.imp (ch9 h) λσ H Q q=>av3 q λvs ds H' st' Qd is hl rs ht hq=>⟨by rw[<-is.len,hl];exact HB (az8 a),hq.newL rs is ht⟩
def IsD.int_inv{K}(h:IsD K H (.int i) v):v=.int i:=by cases h;rfl
def IsD.str_inv{K}{i}(h:IsD K H (.str i) v):v=.str i:=by cases h;rfl
def IsD.bl_inv{K}{i}(h:IsD K H (.bl i) v):v=.bl i:=by cases h;rfl
def IsD.ref_inv{K}{i}(h:IsD K H (.ref i) v):v=.ref i:=by cases h;rfl
def cc5{k}(h:n<2^k)h0:=(Nat.log2_lt h0).mpr h
def bc4(h:i.natAbs<2^20000):Db i<=20000:=by
 unfold Db
 by_cases a:i=0
 ·subst a;exact BU _
 ·rw[if_neg (by simp_all)];exact cc5 h ⋯
theorem U4.ok{j}(h:U4 i j):Ll i j:=by
 rcases h with h|⟨b,a⟩
 ·exact h.ok
 ·have d:=bc4 b;have c:=bc4 a;unfold Ll;have:Gx (Db i+Db j)=AG:=by
   unfold Gx;have:40000<=bitsLine:=by decide
   lia
  first
   |simp_all
   |grind
def cc6:OpR X (ED .Mult) (rI U4 λi j=>.int (i*j)):=opI λ_ _ _ _ _ _ _ hc q=>mul_int q hc.ok
def cl5{o:FP}(k:PE X a (up X.K ta))(j:PE X b (up X.K tb)):PE X (.BinOp a o b pos) (up X.K λenv st Q=>ta env st λx st1=>tb env st1 λy st2=>C3 o x y st2 Q):=by
 cases o with
 |Add=>
  refine PE.imp (U1 (cu8.or b92) k j) λσ H Q q=>up2 (f:=C3 .Add) q λv w d e H' st' i i1 i2 rs c g=>?_;cases d<;>first|exact AU c|(cases e<;>first|exact AU c|skip)
  ·exact .inl ⟨_,_,i1.int_inv,i2.int_inv,g.here (.int _) rs c⟩
  ·rename_i B A;obtain⟨p,vs,I,t,n⟩:=i1.tup_invX;obtain⟨D,C,G,s,m⟩:=i2.tup_invX;refine .inr ⟨p,D,vs,C,I,G,t.sqt,s.sqt,by rw[<-n.len,<-m.len];exact c.1,λz=>?_,λz1 z2=>?_,λ_ _=>g.newT rs (n.append m) c.2⟩
   ·have:B=[]:=by rw[z]at n;have:=n.len;exact Bd (by simpa using this)
    subst this;exact g.here (IsD.mk s m) rs c.2
   ·have:A=[]:=by rw[z2]at m;have:=m.len;exact Bd (by simpa using this)
    subst this;have u:=c.2;rw[BM]at u;exact g.here (IsD.mk t n) rs u
 |Sub=>
  refine PE.imp (U1 ck8 k j) λσ H Q q=>up2 (f:=C3 .Sub) q λv w d e H' st' i i1 i2 rs c g=>?_;cases d<;>first|exact AU c|(cases e<;>first|exact AU c|skip)
  exact⟨_,_,i1.int_inv,i2.int_inv,g.here (.int _) rs c⟩
 |Mult=>
  refine PE.imp (U1 cc6 k j) λσ H Q q=>up2 (f:=C3 .Mult) q λv w d e H' st' i i1 i2 rs c g=>?_;cases d<;>first|exact AU c|(cases e<;>first|exact AU c|skip)
  exact⟨_,_,i1.int_inv,i2.int_inv,c.1,g.here (.int _) rs c.2⟩
 |Mod=>
  refine PE.imp (U1 cv3 k j) λσ H Q q=>up2 (f:=C3 .Mod) q λv w d e H' st' i i1 i2 rs c g=>?_;cases d<;>first|exact AU c|(cases e<;>first|exact AU c|skip)
  exact⟨_,_,i1.int_inv,i2.int_inv,c.1,g.here (.int _) rs c.2⟩
 |FloorDiv=>
  refine PE.imp (U1 b22 k j) λσ H Q q=>up2 (f:=C3 .FloorDiv) q λv w d e H' st' i i1 i2 rs c g=>?_;cases d<;>first|exact AU c|(cases e<;>first|exact AU c|skip)
  exact⟨_,_,i1.int_inv,i2.int_inv,c.1,g.here (.int _) rs c.2⟩
 |Pow=>
  refine PE.imp (U1 ci7 k j) λσ H Q q=>up2 (f:=C3 .Pow) q λv w d e H' st' i i1 i2 rs c g=>?_;cases d<;>first|exact AU c|(cases e<;>first|exact AU c|skip)
  exact⟨_,_,i1.int_inv,i2.int_inv,c.1,g.here (.int _) rs c.2⟩
 |_=>
  refine PE.imp (U1 (op:=_) (r:=λ_ _ _ _=>False) (λ_ _ _ _ _ _ _ _ _ _ _ _ h=>h.elim) k j) λσ H Q q=>up2 (f:=λ_ _ _ _=>False) (by
   obtain⟨env,st,i,F,E,c,g⟩:=q;exact⟨env,st,i,F,E,c,g⟩) λv w d e H' st' i i1 i2 rs c g=>c
def cr7(c:PE X a (up X.K ta)):PE X (.UnaryOp .USub a pos) (up X.K λenv st Q=>ta env st λx st1=>∃i,x=.int i/\Q (.int (-i)) st1):=
 PE.imp (c26 cr9 c) λσ H Q q=>up1 q λv d H' st' Qd is rs b hq=>by
  obtain⟨i,rfl,b⟩:=b;exact⟨i,is.int_inv,hq.here (.int _) rs b⟩
abbrev bk8(X:Cx):EO->R2
 |.Eq=>λx y H Q=>∃d e,IsD X.K H d x/\IsD X.K H e y/\d.pure=AC/\e.pure=AC/\FB (o4 d) (o4 e)<=150/\Q (.bl (deq d e)) H
 |.NotEq=>λx y H Q=>∃d e,IsD X.K H d x/\IsD X.K H e y/\d.pure=AC/\e.pure=AC/\FB (o4 d) (o4 e)<=150/\Q (.bl (!deq d e)) H
 |.Lt=>rI0 λi j=>.bl (AB (i<j))
 |.LtE=>rI0 λi j=>.bl (AB (i<=j))
 |.Gt=>rI0 λi j=>.bl (AB (j<i))
 |.GtE=>rI0 λi j=>.bl (AB (j<=i))
 |.In=>λx y H Q=>(∃d es,IsD X.K H d x/\IsD X.K H (.tup es) y/\d.pure=AC/\D.pures es=AC/\o4 d<=150/\Q (.bl (es.any λe=>deq e d)) H)\/(∃(k:Key)(ks:List Key)(a:AI),x=kV k/\y=.ref a/\(kD k).pure=AC/\SqT X.K H a (ks.map kV)/\D.pures (ks.map kD)=AC/\Q (.bl (ks.any λl=>AB (l=k))) H)
 |_=>λ_ _ _ _=>False
omit [Tbs]in
def bi6 [Tbs]{K:AM}:∀k:Key,IsD K H (kD k) (kV k)
 |.inl i=>.int i
 |.inr x=>.str x
omit [Tbs]in
theorem bd7 [Tbs]{K:AM}:∀ks:List Key,IsDs K H (ks.map kD) (ks.map kV)
 |[]=>.nil
 |k::r=>.cons (bi6 k) (bd7 r)
omit [Tbs]in
def c24:∀{k l:Key},deq (kD k) (kD l)=AB (k=l)
 |.inl i,.inl j=>by show deq (.int i) (.int j)=_;unfold deq D.py As;exact FC.mpr ∎
 |.inr i,.inr j=>by show deq (.str i) (.str j)=_;unfold deq D.py As;exact FC.mpr ∎
 |.inl i,.inr j=>by show deq (.int i) (.str j)=_;unfold deq D.py As;exact(decide_eq_false nofun).symm
 |.inr i,.inl j=>by show deq (.str i) (.int j)=_;unfold deq D.py As;exact(decide_eq_false nofun).symm
omit [Tbs]in
def co3{k:Key}(ks:List Key):((ks.map kD).any λe=>deq e (kD k))=ks.any λl=>AB (l=k):=by
 rw[List.any_map];exact congrArg _ (funext λl=>c24)
omit [Tbs]in
def c94:∀{k:Key},o4 (kD k)<=150
 |.inl _=>BU _
 |.inr _=>BU _
def bd0(b:X.A.units+200<CG):∀o,OpR X (Co o) (bk8 X o)
 |.Eq=>ch5 b
 |.NotEq=>cr4 b
 |.Lt=>cz9
 |.LtE=>cz0
 |.Gt=>cz5
 |.GtE=>c71
 |.In=>λpins s σ H x y v u Q I rx ry h=>by
  rcases h with h|⟨k,ks,a,rfl,rfl,p1,sq,p2,q⟩
  ·exact bh2 b pins s σ H x y v u Q I rx ry h
  ·letI T:Tbs:=⟨[],λ_ _ _ _=>True,AC⟩
   exact @bh2 T X b pins s σ H _ _ v u Q I rx ry ⟨kD k,ks.map kD,bi6 k,IsD.mk (.inr ⟨rfl,sq⟩) (bd7 ks),p1,p2,c94,by rwa[co3]⟩
 |.NotIn|.Is|.IsNot=>λ_ _ _ _ _ _ _ _ _ _ _ _ h=>h.elim
omit [Tbs]in
def _root_.L2.SqT.k{K:AM}{a:AI}{xs:List V}(h:SqT K (λ_=>AE) a xs):SqT K H a xs:=h.elim (λz=>by rcases z with z|⟨_,z⟩<;>cases z) .inr
def bd9{w:V}{d e:D}{j:Hp}{h:Sto}{m:DK}{Q:VK}(f:IsD X.K j d v)(c:IsD X.K j e w)(b:RelS X.K h j)(a:p7 o d e h m)(g:w6 X.K h j m Q):bk8 X o v w j Q:=by
 cases o with
 |Eq=>exact⟨d,e,f,c,a.1,a.2.1,a.2.2.1,g.here (.bl _) b a.2.2.2⟩
 |NotEq=>exact⟨d,e,f,c,a.1,a.2.1,a.2.2.1,g.here (.bl _) b a.2.2.2⟩
 |Lt=>cases d<;>first|exact AU a|(cases e<;>first|exact AU a|exact⟨_,_,f.int_inv,c.int_inv,g.here (.bl _) b a⟩)
 |LtE=>cases d<;>first|exact AU a|(cases e<;>first|exact AU a|exact⟨_,_,f.int_inv,c.int_inv,g.here (.bl _) b a⟩)
 |Gt=>cases d<;>first|exact AU a|(cases e<;>first|exact AU a|exact⟨_,_,f.int_inv,c.int_inv,g.here (.bl _) b a⟩)
 |GtE=>cases d<;>first|exact AU a|(cases e<;>first|exact AU a|exact⟨_,_,f.int_inv,c.int_inv,g.here (.bl _) b a⟩)
 |In=>
  cases e with
  |tup q=>exact .inl ⟨d,q,f,c,a.1,a.2.1,a.2.2.1,g.here (.bl _) b a.2.2.2⟩
  |ktup ks=>
   cases d<;>first|exact AU a|skip
   cases c with
   |ktup sq p=>exact .inr ⟨.inl _,ks,_,f.int_inv,rfl,rfl,sq.k,p,g.here (.bl _) b a⟩
  |_=>exact AU (by cases d<;>exact a)
 |_=>cases d<;>cases e<;>exact a.elim
def af1(o)b(h:∀a k p,b≠.Set a k p):CM o b=AG:=by
 cases b<;>first|rfl|exact absurd rfl (h _ _ _)
def ck5(c:X.A.units+200<CG)(h:PE X a (up X.K ta))(g:PE X b (up X.K tb))(f:∀i k p,b≠.Set i k p):PE X (.Compare a [o] [b] pos) (up X.K λenv st Q=>ta env st λx st1=>tb env st1 λy st2=>p7 o x y st2 Q):=
 PE.imp (bb7 (bd0 c o) h g (af1 o b f)) λσ H Q q=>up2 q λv w d e H' st' Qd i1=>bd9 i1
def co6(f:X.A.units+200<CG)(l:PE X a (up X.K ta))(j:PE X b (up X.K tb))(i:∀r k p,b≠.Set r k p):
  PT X (.Compare a [o] [b] pos) (upB X.K λenv st Q=>ta env st λx st1=>tb env st1 λy st2=>p7 o x y st2 λd st'=>∃k,d=.bl k/\Q k st'):=
 PT.imp (ba5 (bd0 f o) l j (af1 o b i)) λσ H Q q=>by
  obtain⟨env,st,s,n,m,g,h⟩:=q;refine up2 ⟨env,st,_,n,m,g,λv d H' st' ev is rs c=>?_⟩ λv w d e H' st' s i1=>bd9 i1;obtain⟨k,rfl,c⟩:=c;exact⟨k,is.bl_inv,h k H' st' ev rs c⟩
def cs5{j pos'}(f:PE X a (up X.K ta)):PE X (.Compare a [.Is] [.Constant .none j pos'] pos) (up X.K λenv st Q=>ta env st λx st1=>x=.non/\Q (.bl AC) st1\/x≠.non/\Q (.bl AG) st1):=
 PE.imp (bg5 (bh1 f) rfl) λσ H Q q=>up1 q λv d H' st' Qd is rs b hq=>by
  rcases b with⟨rfl,b⟩|⟨c,b⟩
  ·cases is;exact hq.here (.bl _) rs (by simp_all)
  ·have e:AB (v=V.non)=AG:=decide_eq_false λz=>c (by subst z;cases is;rfl);rw[e];exact hq.here (.bl _) rs b
def ca6{j pos'}(f:PE X a (up X.K ta)):PE X (.Compare a [.IsNot] [.Constant .none j pos'] pos) (up X.K λenv st Q=>ta env st λx st1=>x=.non/\Q (.bl AG) st1\/x≠.non/\Q (.bl AC) st1):=
 PE.imp (bg5 (ba3 f) rfl) λσ H Q q=>up1 q λv d H' st' Qd is rs b hq=>by
  rcases b with⟨rfl,b⟩|⟨c,b⟩
  ·cases is;exact hq.here (.bl _) rs (by simp_all)
  ·have e:AB (v=V.non)=AG:=decide_eq_false λz=>c (by subst z;cases is;rfl);rw[e];exact hq.here (.bl _) rs b
def bj4{t}{f}(h:PT X x (tB t))(i:∀σ H Q,up X.K f σ H Q->t σ H Q):PT X x (upB X.K λenv st Q=>f env st λd st'=>∃b,d=.bl b/\Q b st'):=PT.imp h λσ H Q q=>by
 obtain⟨env,st,k,j,g,c,e⟩:=q;refine i σ H _ ⟨env,st,_,j,g,c,λv d H' st' ev is rs q=>?_⟩;obtain⟨b,rfl,q⟩:=q;cases is;exact⟨b,rfl,e b H' st' ev rs q⟩
def ci9{j pos'}(h:PE X a (up X.K ta)):PT X (.Compare a [.Is] [.Constant .none j pos'] pos) (upB X.K λenv st Q=>ta env st λx st1=>(x=.non/\∃b,D.bl AC=.bl b/\Q b st1)\/x≠.non/\∃b,D.bl AG=.bl b/\Q b st1):=
 bj4 (bf3 (bh1 h) rfl) λσ H Q q=>up1 (f:=λx st1 Q=>x=.non/\Q (.bl AC) st1\/x≠.non/\Q (.bl AG) st1) q λv d H' st' Qd is rs c hq=>by
  rcases c with⟨rfl,c⟩|⟨g,c⟩
  ·cases is;exact hq.here (.bl _) rs (by simp_all)
  ·have e:AB (v=V.non)=AG:=decide_eq_false λz=>g (by subst z;cases is;rfl);rw[e];exact hq.here (.bl _) rs c
def cc2{j pos'}(h:PE X a (up X.K ta)):PT X (.Compare a [.IsNot] [.Constant .none j pos'] pos) (upB X.K λenv st Q=>ta env st λx st1=>(x=.non/\∃b,D.bl AG=.bl b/\Q b st1)\/x≠.non/\∃b,D.bl AC=.bl b/\Q b st1):=
 bj4 (bf3 (ba3 h) rfl) λσ H Q q=>up1 (f:=λx st1 Q=>x=.non/\Q (.bl AG) st1\/x≠.non/\Q (.bl AC) st1) q λv d H' st' Qd is rs c hq=>by
  rcases c with⟨rfl,c⟩|⟨g,c⟩
  ·cases is;exact hq.here (.bl _) rs (by simp_all)
  ·have e:AB (v=V.non)=AG:=decide_eq_false λz=>g (by subst z;cases is;rfl);rw[e];exact hq.here (.bl _) rs c
@[reducible]noncomputable def tst(t:DT):DB:=λenv st Q=>t env st λd st'=>∃b,d=.bl b/\Q b st'
variable {j7:List AS}
def bf9(l:PE X a (up X.K ta))(j:PE X (.BoolOp .And (b::j7) pos) (up X.K tb)):PE X (.BoolOp .And (a::b::j7) pos) (up X.K λenv st Q=>ta env st λx st1=>∃c,x=.bl c/\if c=AC then tb env st1 Q else Q (.bl AG) st1):=
 PE.imp (cm6 l j) λσ H Q q=>by
  obtain⟨env,st,m,h,g,i,f⟩:=q;refine⟨env,st,_,h,g,i,λv d H1 st1 ev is rs e=>?_⟩;obtain⟨k,rfl,e⟩:=e;refine⟨k,is.bl_inv,?_⟩;cases k with
  |true=>exact⟨env,st1,m,h.mono (ev.tk g),rs,e,f.after ev⟩
  |false=>exact(f.after ev).here (.bl _) rs e
def bi7(l:PE X a (up X.K ta))(j:PE X (.BoolOp .Or (b::j7) pos) (up X.K tb)):PE X (.BoolOp .Or (a::b::j7) pos) (up X.K λenv st Q=>ta env st λx st1=>∃c,x=.bl c/\if c=AC then Q (.bl AC) st1 else tb env st1 Q):=
 PE.imp (c53 l j) λσ H Q q=>by
  obtain⟨env,st,m,h,g,i,f⟩:=q;refine⟨env,st,_,h,g,i,λv d H1 st1 ev is rs e=>?_⟩;obtain⟨k,rfl,e⟩:=e;refine⟨k,is.bl_inv,?_⟩;cases k with
  |false=>exact⟨env,st1,m,h.mono (ev.tk g),rs,e,f.after ev⟩
  |true=>exact(f.after ev).here (.bl _) rs e
def ci2(e:PE X a (up X.K ta)):PE X (.UnaryOp .Not a pos) (up X.K λenv st Q=>ta env st λx st1=>∃c,x=.bl c/\Q (.bl !c) st1):=
 PE.imp (cq5 e) λσ H Q q=>up1 q λv d H' st' Qd is rs b hq=>by
  obtain⟨c,rfl,b⟩:=b;exact⟨c,is.bl_inv,hq.here (.bl _) rs b⟩
def bg4(n:PT X a (upB X.K (tst ta)))(m:PW X (.BoolOp .And (b::j7) pos) (upB X.K (tst tb))):PW X (.BoolOp .And (a::b::j7) pos) (upB X.K (tst λenv st Q=>ta env st λx st1=>∃c,x=.bl c/\if c=AC then tb env st1 Q else Q (.bl AG) st1)):=
 PW.imp (ct1 n m) λσ H Q q=>by
  obtain⟨env,st,g,j,i,l,h⟩:=q;refine⟨env,st,λc st1=>if c=AC then tb env st1 λd st'=>∃b,d=.bl b/\g b st' else ∃b,D.bl AG=.bl b/\g b st1,j,i,l,λk H1 st1 ev rs f=>?_⟩;cases k with
  |true=>
   exact⟨env,st1,g,j.mono (ev.tk i),rs,f,λc H2 st2 ev2=>h c H2 st2 (ev.trans ev2)⟩
  |false=>
   obtain⟨b,e,f⟩:=f;cases e;exact h AG H1 st1 ev rs f
def bi5(n:PT X a (upB X.K (tst ta)))(m:PW X (.BoolOp .Or (b::j7) pos) (upB X.K (tst tb))):PW X (.BoolOp .Or (a::b::j7) pos) (upB X.K (tst λenv st Q=>ta env st λx st1=>∃c,x=.bl c/\if c=AC then Q (.bl AC) st1 else tb env st1 Q)):=
 PW.imp (cx8 n m) λσ H Q q=>by
  obtain⟨env,st,g,j,i,l,h⟩:=q;refine⟨env,st,λc st1=>if c=AC then ∃b,D.bl AC=.bl b/\g b st1 else tb env st1 λd st'=>∃b,d=.bl b/\g b st',j,i,l,λk H1 st1 ev rs f=>?_⟩;cases k with
  |false=>
   exact⟨env,st1,g,j.mono (ev.tk i),rs,f,λc H2 st2 ev2=>h c H2 st2 (ev.trans ev2)⟩
  |true=>
   obtain⟨b,e,f⟩:=f;cases e;exact h AC H1 st1 ev rs f
def ch7(h:PT X a (upB X.K (tst ta))):PT X (.UnaryOp .Not a pos) (upB X.K (tst λenv st Q=>ta env st λx st1=>∃c,x=.bl c/\Q (.bl !c) st1)):=
 PT.imp (ct5 h) λσ H Q q=>by
  obtain⟨env,st,k,j,i,f,g⟩:=q;refine⟨env,st,λc st1=>∃b,D.bl (!c)=.bl b/\k b st1,j,i,f,λk H1 st1 ev rs d=>?_⟩;obtain⟨b,e,d⟩:=d;cases e;exact g _ H1 st1 ev rs d
def cl9{t1}(i:PT X c (upB X.K (tst t1)))(l:PE X a (up X.K ta))(j:PE X b (up X.K tb)):PE X (.IfExp c a b pos) (up X.K λenv st Q=>t1 env st λx st1=>∃k,x=.bl k/\if k=AC then ta env st1 Q else tb env st1 Q):=
 PE.imp (b23 i l j) λσ H Q q=>by
  obtain⟨env,st,d,f,e,h,g⟩:=q;refine⟨env,st,λk st1=>if k=AC then ta env st1 d else tb env st1 d,f,e,h,λk H1 st1 ev rs q1=>?_⟩;cases k with
  |true=>exact⟨env,st1,d,f.mono (ev.tk e),rs,q1,g.after ev⟩
  |false=>exact⟨env,st1,d,f.mono (ev.tk e),rs,q1,g.after ev⟩
end
end
section
variable [Tbs]
variable{H:Hp}{ds:List D}{vs:List V}{f m:Str}{CX:CXT}{fd:BZ}{ps:List Str}{sp:Spec}{es:List AS}{n:Nat}{Ph:Str->Spec}{apos:Pos}{ob:AS}{Ca:AI}
section
variable {X:Cx} {a b c:AS} {ta tb tc:DT} {pos p:Pos}
def be7{K}{i}{d}(r:IsDs K H ds vs)(h:atI ds i=AA d):∃v,atI vs i=AA v/\IsD K H d v:=by
 unfold atI at h ⊢;rw[<-r.len];cases e:ixN ds.length i with
 |none=>simp_all
 |some j=>
  rw[e]at h;exact r.get h
def am6(h:∀l u s p,b≠.Slice l u s p):a99 b:=λo i=>by
 cases b<;>first|rfl|exact absurd rfl (h _ _ _ _)
def c48(t:X.A.units+200<CG)(o:PE X a (up X.K ta))(n:PE X b (up X.K tb))(k:∀l u s p,b≠.Slice l u s p):PE X (.Subscript a b pos) (up X.K λenv st Q=>ta env st λx st1=>tb env st1 λy st2=>ixR x y st2 Q):=
 PE.imp (c68 (cc3.or cj8) o n (am6 k)) λσ H Q q=>up2 q λv w d e H' st' Qd i1 i2 rs c hq=>by
  cases d<;>first|exact AU c|(cases e<;>first|exact AU c|skip)
  ·obtain⟨d,j,c⟩:=c;obtain⟨p,vs,rfl,f,r⟩:=i1.tup_inv;obtain⟨g,i,h⟩:=be7 r j;exact .inr ⟨p,vs,_,g,rfl,i2.int_inv,f,i,hq.here h rs c⟩
  ·obtain⟨ds,d,m,j,c⟩:=c.resolve_right id;obtain⟨vs,f,r⟩:=rs.rd m;obtain⟨g,i,h⟩:=be7 r j;exact .inl ⟨_,vs,_,g,i1.ref_inv,i2.int_inv,f,i,hq.here h rs c⟩
@[reducible]noncomputable def DO:=i9->Sto->(Option Int->Sto->Prop)->Prop
abbrev upO(K:AM)(t:DO):TO:=λσ H Q=>∃env st Qd,RelE K H env σ/\RelS K st H/\t env st Qd/\∀o H' st',Ev st H st' H'->RelS K st' H'->Qd o st'->Q o H'
def _root_.L2.PO.imp{X}{x}{t t'}(h:PO X x t)(i:∀a H Q,t' a H Q->t a H Q):PO X x t':=λpins s a H Q I q=>h pins s a H Q I (i a H Q q)
def ch4:PO X AE (upO X.K λ_ st k=>k AE st):=PO.imp b97 λσ H Q q=>by
 obtain⟨env,st,e,d,c,a,b⟩:=q;exact b AE H st Ev.refl c a
def b89(f:PE X a (up X.K ta)):PO X (AA a) (upO X.K λenv st k=>ta env st λd st'=>∃i,d=.int i/\k (AA i) st'):=PO.imp (cf1 f) λσ H Q q=>by
 obtain⟨env,st,j,h,g,c,e⟩:=q;refine⟨env,st,_,h,g,c,λv d H' st' ev is rs b=>?_⟩;obtain⟨i,rfl,b⟩:=b;exact⟨i,is.int_inv,e _ H' st' ev rs b⟩
def ar5{K}(r:IsDs K H ds vs)lo hi:IsDs K H (A8 ds lo hi) (Q6 vs lo hi):=by
 unfold A8 Q6;rw[r.len];exact(r.drop _).take _
def c55{lo hi}{tl th}{p2}(s:PE X a (up X.K ta))(n:PO X lo (upO X.K tl))(o:PO X hi (upO X.K th)):
  PE X (.Subscript a (.Slice lo hi AE p2) pos) (up X.K λenv st Q=>ta env st λx st1=>tl env st1 λl st2=>th env st2 λh st3=>slR x l h st3 Q):=
 PE.imp (a87 (bg0.or ce5) s n o) λσ H Q q=>by
  obtain⟨env,st,t,i,g,j,m⟩:=q;refine⟨env,st,_,i,g,j,λv d H1 st1 ev1 is1 rs1 q1=>⟨env,st1,_,i.mono (ev1.tk g),rs1,q1,λl H2 st2 ev2 rs2 q2=>⟨env,st2,_,(i.mono (ev1.tk g)).mono (ev2.tk rs1),rs2,q2,λh H3 st3 ev3 rs3 b=>?_⟩⟩⟩;have c:=(is1.mono (ev2.tk rs1)).mono (ev3.tk rs2);have e:=((m.after ev1).after ev2).after ev3;cases d<;>first|exact AU b|skip
  ·obtain⟨p,vs,rfl,f,r⟩:=c.tup_inv;exact .inl ⟨p,vs,rfl,f,(r.len▸b.1),e.newT rs3 (ar5 r l h) b.2⟩
  ·obtain⟨ds,k,b⟩:=b;obtain⟨vs,f,r⟩:=rs3.rd k;exact .inr ⟨_,vs,c.ref_inv,f,e.newL rs3 (ar5 r l h) b⟩
def L9(b:PE X a (up X.K ta))(h:∀e p,a≠.Starred e p):PA X [a] (upA X.K 1 λenv st Q=>ta env st λd st1=>Q [d] st1):=V8 b be5 h
def as4{id}{r}{g:D->Sto->DK->Prop}(F:G6 X (.builtin id) r)(E:Gl X f)(B:X.mg f=AE)(w:BF f=AA (.builtin id))(G:PE X a (up X.K ta))(m:∀e p,a≠.Starred e p)
  (j:∀v d h b i Q,IsD X.K h d v->RelS X.K b h->g d b i->w6 X.K b h i Q->r [v] h Q) (A:f≠"__name__") (k:(f=="__debug__")=AG) :
  PE X (.Call (.Name f p) [a] [] pos) (up X.K λenv st Q=>ta env st λx c=>g x c Q):=
 PE.imp (af3 F E B w (L9 G m) A k (n8 m) rfl) λσ H Q q=>by
  obtain⟨env,st,i,J,I,y,z⟩:=q;refine⟨env,st,λds c=>match ds with|[d]=>g d c i|_=>False,J,I,y,λvs ds h b L s C n o=>?_⟩
  match ds,C with
  |[d],_=>
   obtain⟨v,M,rfl,u,t⟩:=s.inv_cons;rw[t.inv_nil];exact j v d h b i Q u n o (z.after L)
def as3{T}{r}{g:D->Sto->DK->Prop}(F:G6 X (.type T) r)(E:Gl X f)(B:X.mg f=AE)(w:BF f=AA (.type T))(G:PE X a (up X.K ta))(m:∀e p,a≠.Starred e p)
  (j:∀v d h b i Q,IsD X.K h d v->RelS X.K b h->g d b i->w6 X.K b h i Q->r [v] h Q) (A:f≠"__name__") (k:(f=="__debug__")=AG) :
  PE X (.Call (.Name f p) [a] [] pos) (up X.K λenv st Q=>ta env st λx c=>g x c Q):=
 PE.imp (bs5 F E B w (L9 G m) A k (n8 m) rfl) λσ H Q q=>by
  obtain⟨env,st,i,J,I,y,z⟩:=q;refine⟨env,st,λds c=>match ds with|[d]=>g d c i|_=>False,J,I,y,λvs ds h b L s C n o=>?_⟩
  match ds,C with
  |[d],_=>
   obtain⟨v,M,rfl,u,t⟩:=s.inv_cons;rw[t.inv_nil];exact j v d h b i Q u n o (z.after L)
def b15:BF "abs"=AA (.builtin "abs"):=by decide+kernel
def bz3:BF "max"=AA (.builtin "max"):=by decide+kernel
def b37:BF "sum"=AA (.builtin "sum"):=by decide+kernel
def ax3:BF "isinstance"=AA (.builtin "isinstance"):=rfl
def b42:BF "int"=AA (.type "int"):=by decide+kernel
def bq9:BF "list"=AA (.type "list"):=by decide+kernel
def bp3:BF "tuple"=AA (.type "tuple"):=by decide+kernel
def cm7(h:Gl X "len")(g:X.mg "len"=AE)(i:PE X a (up X.K ta))(c:∀e p,a≠.Starred e p):PE X (.Call (.Name "len" p) [a] [] pos) (up X.K λenv st Q=>ta env st λx st1=>U9 x st1 Q):=
 as4 bo2 h g PySem.boot_len i c (λv d H' st' Qd Q is rs b hq=>by
  cases d<;>first|exact AU b|skip
  ·obtain⟨p,vs,rfl,c,r⟩:=is.tup_inv;exact⟨p,vs,rfl,.inr c,r.len▸hq.here (.int _) rs b⟩
  ·obtain⟨ds,f,b⟩:=b;obtain⟨vs,c,r⟩:=rs.rd f;exact⟨_,vs,by rw[is.ref_inv],.inl c,r.len▸hq.here (.int _) rs b⟩) ∅ ∅
def ci5(g:Gl X "abs")(f:X.mg "abs"=AE)(h:PE X a (up X.K ta))(c:∀e p,a≠.Starred e p):PE X (.Call (.Name "abs" p) [a] [] pos) (up X.K λenv st Q=>ta env st λx st1=>∃i,x=.int i/\Q (.int (if i<0 then -i else i)) st1):=
 as4 b33 g f b15 h c (λv d H' st' Qd Q is rs b hq=>by
  obtain⟨i,rfl,b⟩:=b;exact⟨i,by rw[is.int_inv],hq.here (.int _) rs b⟩) ∅ ∅
def b35(f:Gl X "int")(c:X.mg "int"=AE)(g:PE X a (up X.K ta))(b:∀e p,a≠.Starred e p):PE X (.Call (.Name "int" p) [a] [] pos) (up X.K λenv st Q=>ta env st λx st1=>ag4 x st1 Q):=
 as3 bt1 f c b42 g b (λv d H' st' Qd Q is rs ht hq=>by
  cases d<;>first|exact AU ht|exact .inr ⟨_,by rw[is.bl_inv],hq.here (.int _) rs ht⟩) ∅ ∅
def ci0(i:X.calm=AC)(h:Gl X "sum")(g:X.mg "sum"=AE)(j:PE X a (up X.K ta))(c:∀e p,a≠.Starred e p):PE X (.Call (.Name "sum" p) [a] [] pos) (up X.K λenv st Q=>ta env st λx st1=>ai8 x st1 Q):=
 as4 (bt2 i) h g b37 j c (λv d H' st' Qd Q is rs b hq=>by
  cases d<;>first|exact AU b|skip
  obtain⟨ns,f,b⟩:=b;obtain⟨vs,c,r⟩:=rs.rd f;exact⟨_,ns,by rw[is.ref_inv],(r.ints▸c),hq.here (.int _) rs b⟩) ∅ ∅
def b74(f:Gl X "list")(c:X.mg "list"=AE)(g:PE X a (up X.K ta))(b:∀e p,a≠.Starred e p):PE X (.Call (.Name "list" p) [a] [] pos) (up X.K λenv st Q=>ta env st λx st1=>ah4 x st1 Q):=
 as3 bn7 f c bq9 g b (λv d H' st' Qd Q is rs ht hq=>by
  cases d<;>first|exact AU ht|skip
  obtain⟨p,vs,rfl,b,r⟩:=is.tup_inv;exact⟨p,vs,rfl,.inr b,hq.newL rs r ht⟩) ∅ ∅
def b10(h:Gl X "tuple")(g:X.mg "tuple"=AE)(i:PE X a (up X.K ta))(c:∀e p,a≠.Starred e p):PE X (.Call (.Name "tuple" p) [a] [] pos) (up X.K λenv st Q=>ta env st λx st1=>aa3 x st1 Q):=
 as3 bn2 h g bp3 i c (λv d H' st' Qd Q is rs b hq=>by
  cases d<;>first|exact AU b|skip
  obtain⟨ds,f,b⟩:=b;obtain⟨vs,c,r⟩:=rs.rd f;exact⟨_,vs,by rw[is.ref_inv],.inl ⟨c,hq.newT rs r b⟩⟩) ∅ ∅
def be0(f:PE X a (up X.K ta))(c:PE X b (up X.K tb))(h:∀e p,a≠.Starred e p)(h':∀e p,b≠.Starred e p):PA X [a,b] (upA X.K 2 λenv st Q=>ta env st λd st1=>tb env st1 λe st2=>Q [d,e] st2):=V8 f (L9 c h') h
def cq8(E:X.calm=AC)(D:Gl X "max")(B:X.mg "max"=AE)(G:PE X a (up X.K ta))(F:PE X b (up X.K tb))(k:∀e p,a≠.Starred e p)(f:∀e p,b≠.Starred e p):
  PE X (.Call (.Name "max" p) [a,b] [] pos) (up X.K λenv st Q=>ta env st λx c=>tb env c λy st2=>∃i j,x=.int i/\y=.int j/\Q (.int (if j>i then j else i)) st2):=
 PE.imp (af3 (bt6 E) D B bz3 (be0 G F k f) ∅ ∅ (n8 k) (by rw[n8 f];rfl)) λσ H Q q=>by
  obtain⟨env,st,M,J,I,z,A⟩:=q;refine⟨env,st,λds c=>match ds with|[x,y]=>∃i j,x=.int i/\y=.int j/\M (.int (if j>i then j else i)) c|_=>False,J,I,z,λvs ds O m L o C n g=>?_⟩
  match ds,C with
  |[d,e],_=>
   obtain⟨v,N,rfl,u,t⟩:=o.inv_cons;obtain⟨w,l,rfl,s,r⟩:=t.inv_cons;rw[r.inv_nil];obtain⟨i,j,rfl,rfl,g⟩:=g;exact⟨i,j,by rw[u.int_inv,s.int_inv],(A.after L).here (.int _) n g⟩
abbrev P3:List String:=["tuple","int","bool","str","list"]
def ar1 K:∀t∈P3,∀b∈["NoneType","bool","int","str","tuple","list"],Cy K (.type b) (.type t)=AA (b==t||b=="bool"&&t=="int"):=by
 intro t c b a;simp only[P3,AR,AW,or_false]at c a
 rcases c with rfl|rfl|rfl|rfl|rfl<;>rcases a with rfl|rfl|rfl|rfl|rfl|rfl<;>first|rfl|(rfl)|(unfold Cy)
def cv9{p2:Pos}{t:String}(g:t∈P3)(Z:Gl X "isinstance")(Y:X.mg "isinstance"=AE)(G:Gl X f)(F:X.mg f=AE)(m:BF f=AA (.type t))(W:f≠"__name__")(J:(f==("__debug__":Str))=AG)(ha:PE X a (up X.K ta))(P:∀e p,a≠.Starred e p):
  PE X (.Call (.Name "isinstance" p) [a,.Name f p2] [] pos) (up X.K λenv st Q=>ta env st λx st1=>ah9 t x st1 Q):=by
 intro l s M H Q I q;obtain⟨env,st,R,hE,hS,T,E⟩:=q;have L:PA X [a,.Name f p2] (M2 (up X.K ta) (M2 (tC (.ty t)) V0)):=J8 ha (J8 (bc6 (v:=.ty t) G F m rfl W J) W2 rfl) (n8 P);refine af3 (r:=λvs H Q=>(∃x ty b,vs=[x,.ty t]/\TyOf X.K H x ty/\Cy X.K ty (.type t)=AA b/\Q (.bl b) H)\/∃j y b,vs=[.ref j,.ty t]/\SqT X.K H j y/\Cy X.K (.type "tuple") (.type t)=AA b/\Q (.bl b) H) ?_ Z Y ax3 L ∅ ∅ (n8 P) rfl l s M H Q I ?_
 ·intro l s M H vs us Q I r h
  rcases h with⟨x,ty,b,rfl,w,n,q⟩|⟨j,y,b,rfl,w,n,q⟩
  ·obtain⟨u,v,rfl,B,A⟩:=r.two;cases A;exact bv5 I B w n λtk=>⟨.bl b,H,I.tok _,rfl,q⟩
  ·obtain⟨u,v,rfl,B,A⟩:=r.two;cases A;cases B;obtain⟨S,_,⟨o,e1,e2,_⟩,_⟩:=I.tupleD w;exact CP Lo I.kIn ⟨o,e1,e2⟩ n (λz=>nomatch z) λtk=>⟨.bl b,H,I.tok _,rfl,q⟩
 ·refine⟨env,st,_,hE,hS,T,λv d H' st' ev is rs i=>?_⟩;have fin:∀ty:String,ty∈["NoneType","bool","int","str","tuple","list"]->TyOf X.K H' v (.type ty)->R (.bl (ty==t||(ty=="bool"&&t=="int"))) st'->(∃x ty b,[v,V.ty t]=[x,.ty t]/\TyOf X.K H' x ty/\Cy X.K ty (.type t)=AA b/\Q (.bl b) H')\/∃j y b,[v,V.ty t]=[.ref j,.ty t]/\SqT X.K H' j y/\Cy X.K (.type "tuple") (.type t)=AA b/\Q (.bl b) H':=λty hty w n=>.inl ⟨v,.type ty,_,rfl,w,ar1 X.K t g ty hty,(E.after ev).here (.bl _) rs n⟩
  rcases i with⟨ty,e,i⟩|⟨b,ds,rfl,U,i⟩
  ·cases d<;>first|(simp[tyD]at e;done)|skip
   all_goals (simp only[tyD,Bj]at e;subst e)
   ·cases is;exact fin "NoneType" ∎ .non i
   ·cases is;exact fin "bool" ∎ (.bl _) i
   ·cases is;exact fin "int" ∎ (.int _) i
   ·cases is;exact fin "str" ∎ (.str _) i
   ·obtain⟨j,vs,rfl,D,r⟩:=is.tup_inv;exact .inr ⟨j,vs,_,rfl,D,ar1 X.K t g "tuple" ∎,(E.after ev).here (.bl _) rs i⟩
   ·cases is with
    |ktup sq _=>exact .inr ⟨_,_,_,rfl,sq.k,ar1 X.K t g "tuple" ∎,(E.after ev).here (.bl _) rs i⟩
  ·obtain⟨vs,C,r⟩:=rs.rdR U;rw[is.ref_inv];have N:R (.bl ("list"==t||("list"=="bool"&&t=="int"))) st':=by
    have e:("list"==t||("list"=="bool"&&t=="int"))=(t=="list"):=by simp only[P3,AR,AW,or_false]at g;rcases g with rfl|rfl|rfl|rfl|rfl<;>decide
    rw[e];exact i
   rw[is.ref_inv]at fin
   rcases C with h|⟨o,h⟩
   ·exact fin "list" ∎ (.lst h) N
   ·exact fin "list" ∎ (.frz h) N
abbrev t5(K:AM)(sp:Spec):Sp:=λvs H Q _=>∃ds st Qd,IsDs K H ds vs/\RelS K st H/\sp ds st Qd/\w6 K st H Qd Q
def b53(d:B2 CX X E0){f}{k}{fa}{t}(F:FnOk X.prog X.w X.K X.mg X.base CX k fa fd ps (t5 X.K sp))(h:Room k X.A)(l:Gl X f)(i:X.mg f=AA (.ref fa))(j:BQ X.K (.ref fa)=AC)
  (m:o8 X.K fd ps []) (o:PA X (a::es) (upA X.K n t)) (c:(f==("__debug__":Str))=AG) (g:∀e p,a≠.Starred e p) (b:(Bp pos (Aj es X.env)).any (·.1)=AG) :
  PE X (.Call (.Name f p) (a::es) [] pos) (up X.K λenv st Q=>t env st λds st1=>sp ds st1 Q):=
 PE.imp (b61 F h l i j m .nil d o c (n8 g) b) λσ H Q q=>av3 q λvs ds H' st' Qd is hl rs ht hq=>⟨ds,st',Qd,by simp_all,rs,ht,hq⟩
def c30{fa}(g:Gl X f)(e:X.mg f=AA (.ref fa))(a:Ae X.K AK f=AA (AA (.ref fa)))(b:(f==("__debug__":Str))=AG):PE X (.Name f p) (up X.K λ_ st Q=>Q (.fn f) st):=
 PE.imp (ap6 (v:=.ref fa) g e rfl b) λσ H Q q=>by
  obtain⟨env,st,j,i,h,c,d⟩:=q;exact d.here (.fn a) h c
abbrev X0(K:AM)(f:AI)(fd:BZ)(np:Nat)(N:List Str)(cs:List D)(sp:Spec):Sp:=λvs H Q _=>∃us ds st Qd,CloR H f fd np N us/\IsDs K H cs us/\IsDs K H ds vs/\RelS K st H/\sp ds st Qd/\w6 K st H Qd Q
def CloR.fnAt{f}{np}{N}{us}(h:CloR H f fd np N us)(I:Inv X pins σ H s):W.FnAt f s.heap:=by
 obtain⟨o,u,i,_,g⟩:=h.ex;obtain⟨e,_⟩:=I.hok f _ i;obtain⟨d,c,j,b⟩:=o;have a:=g;subst a;exact⟨d,c,fd,b,e⟩
def bz5(hx:B2 CX X E0){i:Nat}{x:Str}{t:DA}{Z:Sg}(hN:X.N[i]?=AA x)(hv:Vis X.env.scope x)(hd:(x==("__debug__":Str))=AG)(C:(x==("__classdict__":Str))=AG)
  (hF:∀f g,Z.F f=AC->Ae X.K AK f=AA (AA (.ref g))->∃k fd m,FnOk X.prog X.w X.K X.mg X.base CX k g fd m (t5 X.K (Z.Phi f))/\Room k X.A/\BQ X.K (.ref g)=AC/\o8 X.K fd m [])
  (hC:∀np N b o g fd m,CloF fd np N m b->∃k,FnOk X.prog X.w X.K X.mg X.base CX k g fd m (X0 X.K g fd np N o (Z.PhiC np N b o))/\Room k X.A)
  (ha:PA X (a::es) (upA X.K n t)) (hs:∀e p,a≠.Starred e p) (B:(Bp pos (Aj es X.env)).any (·.1)=AG) :
  PE X (.Call (.Name x p) (a::es) [] pos) (up X.K λenv st Q=>∃x,env[i]?=AA (AA x)/\T9 Z (t env) st Q x):=by
 intro j s G H Q I q;obtain⟨env,st,u,T,D,⟨d,he,S⟩,hq⟩:=q;obtain⟨v,z,y⟩:=T.at' i _ he;cases d with
 |fn f=>
  obtain⟨hf,O⟩:Z.F f=AC/\t env st λds c=>Z.Phi f ds c u:=S;obtain⟨g,rfl,R⟩:∃g,v=.ref g/\Ae X.K AK f=AA (AA (.ref g)):=by cases y with|fn h=>exact⟨_,rfl,h⟩
  obtain⟨k,fd,m,Fo,P,hk,hb⟩:=hF f g hf R;refine BV (thn (M0 hN hv hd C j s G H (λv l=>v=.ref g/\l=H) I ⟨_,z,rfl,rfl⟩) λu s1 z36=>?_);obtain⟨v,l,E,L,V,U⟩:=z36;subst V U;cases L;refine DD (h₀:=X.base) E.ok.mod.kin hk (thn (ha pos j s1 G l (λvs H2=>∃ds c,Ev st l c H2/\IsDs X.K H2 ds vs/\RelS X.K c H2/\Z.Phi f ds c u) E ⟨env,st,_,T,D,O,λvs ds H' st' ev is hl rs q=>⟨ds,st',ev,is,rs,q⟩⟩) λus s2⟨vs,H2,I2,r,ds,c,ev,is,rs,q⟩=>⟨I2.kIn,?_⟩) (n8 hs) B;exact T6 Fo P hb .nil hx I2 r ⟨ds,c,u,by rw[BM];exact is,rs,q,hq.after ev⟩
 |clo np N b o=>
  have O:t env st λds c=>Z.PhiC np N b o ds c u:=S;obtain⟨g,J,rfl,ca,M⟩:∃g us,v=.ref g/\Q1 H g np N b us/\IsDs X.K H o us:=by cases y with|clo h1 h2 h3=>exact⟨_,_,rfl,h1,h2,h3⟩
  obtain⟨fd,m,cf,Y⟩:=ca;obtain⟨k,Fo,P⟩:=hC np N b o g fd m cf;refine BV (thn (M0 hN hv hd C j s G H (λv l=>v=.ref g/\l=H) I ⟨_,z,rfl,rfl⟩) λu s1 z37=>?_);obtain⟨v,l,E,L,V,U⟩:=z37;subst V U;cases L;refine W.callWith_F (Y.fnAt E) (thn (ha pos j s1 G l (λvs H2=>∃ds c,Ev st l c H2/\IsDs X.K H2 ds vs/\RelS X.K c H2/\Z.PhiC np N b o ds c u) E ⟨env,st,_,T,D,O,λvs ds H' st' ev is hl rs q=>⟨ds,st',ev,is,rs,q⟩⟩) λus s2⟨vs,H2,I2,r,ds,c,ev,is,rs,q⟩=>⟨(Y.mono (K:=X.K) (ev.tk D)).fnAt I2,?_⟩) (n8 hs) B;exact T6 Fo P (.all cf.bind) .nil hx I2 r ⟨J,ds,c,u,Y.mono (K:=X.K) (ev.tk D),M.mono (ev.tk D),by rw[BM];exact is,rs,q,hq.after ev⟩
 |_=>exact(S:False).elim
def b17(N:B2 CX X E0){ca cb}{cp}{t}{tf}{F:Str->Bool}(U:PE X (.Subscript ca cb cp) (up X.K tf))
  (Y:∀f i,F f=AC->Ae X.K AK f=AA (AA (.ref i))->∃k fd o,FnOk X.prog X.w X.K X.mg X.base CX k i fd o (t5 X.K (Ph f))/\Room k X.A/\BQ X.K (.ref i)=AC/\o8 X.K fd o [])
  (W:PA X (a::es) (upA X.K n t)) (P:∀e p,a≠.Starred e p) (z:(Bp pos (Aj es X.env)).any (·.1)=AG) :
  PE X (.Call (.Subscript ca cb cp) (a::es) [] pos) (up X.K λenv st Q=>tf env st λx c=>∃f,x=.fn f/\F f=AC/\t env c λds b=>Ph f ds b Q):=by
 intro g s E H Q I q;obtain⟨env,st,D,J,G,O,S⟩:=q;have e:eval (.Call (.Subscript ca cb cp) (a::es) [] pos) X.env=(do
  callWith pos (<-eval (.Subscript ca cb cp) X.env) [] (Bp pos (Aj (a::es) X.env)) (El pos (DF [] X.env))):=rfl
 refine AD (thn (U g s E H (λv j=>∃d c,Ev st H c j/\IsD X.K j d v/\RelS X.K c j/\∃f,d=.fn f/\F f=AC/\t env c λds b=>Ph f ds b D) I ⟨env,st,_,J,G,O,λv d H' st' ev is rs q=>⟨d,st',ev,is,rs,q⟩⟩) λu s1 z38=>?_);obtain⟨v,j,L,M,d,c,l,u,m,f,Z,C,y⟩:=z38;subst Z;obtain⟨i,rfl,B⟩:∃i,v=.ref i/\Ae X.K AK f=AA (AA (.ref i)):=by cases u with|fn h=>exact⟨_,rfl,h⟩
 obtain⟨k,fd,o,Fo,R,T,V⟩:=Y f i C B;cases M;refine DD L.ok.mod.kin T (thn (W pos g s1 E j (λvs H2=>∃ds b,Ev c j b H2/\IsDs X.K H2 ds vs/\RelS X.K b H2/\Ph f ds b D) L ⟨env,c,_,J.mono (l.tk G),m,y,λvs ds H' st' ev is hl rs q=>⟨ds,st',ev,is,rs,q⟩⟩) λus s2⟨vs,H2,I2,r,ds,b,ev,is,rs,q⟩=>⟨I2.kIn,?_⟩) (n8 P) z;exact T6 Fo R V .nil N I2 r ⟨ds,b,D,by simp_all,rs,q,S.after (l.trans ev)⟩
def C7{o}{nm}{env}{w}(h:∀i p a,o≠.Call (.Name i p) [] [] a):CN o nm env w=w:=by
 unfold CN
 simp_all
def cm0{f}{C:Str->List Str}(w:∀c g,Ae X.K AK c=AA (AA (.ref g))->f∈C c->Cls X.K g/\L8 X.K g f)(u:PE X a (up X.K ta))(b:CN a f X.env (eval a X.env)=eval a X.env):
  PE X (.Attribute a f pos) (up X.K λenv st Q=>ta env st λx st1=>∃p c j d,x=.ref p/\st1 p=AA (.ins c j)/\f∈C c/\j.lookup f=AA d/\Q d st1):=
 PE.imp (cq3 u b) λσ H Q q=>up1 q λv d H' st' Qd is rs i hq=>by
  obtain⟨p,c,j,e,rfl,o,t,l,i⟩:=i;obtain⟨g,y,vs,v,s,r⟩:=rs.ins o;obtain⟨A,z⟩:=w c g s t
  rcases r.look f with⟨k,_⟩|⟨d',m,k,n,h⟩
  ·simp_all
  ·rw[k]at l;cases l;exact⟨p,g,y,vs,m,is.ref_inv,v,A,z,n,hq.here h rs i⟩
def af5{o:AS}{pos}{a:List AS}{env}(d:∀i p g,o≠.Call (.Name i p) [] [] g)(b:Dk (a.length+0) (Bp pos (Aj a env)) (El pos (DF [] env))=AC)(c:(apos.endLine==pos.line)=AC):
  eval (.Call (.Attribute o m apos) a [] pos) env=(do
   let e <-eval o env
   Ho apos.atName
   let(f,first) <-holding [e] (Kv e m (do return (<-importBound o env).getD AC))
   callWith pos f first (Bp pos (Aj a env)) (El pos (DF [] env))):=by
 rw[arm_eval_Call,C7 d]
 unfold methodCall;simp only[BW]at b ⊢;rw[b];unfold methodCallPos calleeOf;simp only[c];rfl
def cd7(W:B2 CX X E0){t}{F:Str->Bool}
  (hM:∀c B,Ae X.K AK c=AA (AA (.ref B))->F (c9 c m)=AC->∃k f fd D,Cls X.K B/\Meth X.K B m f/\FnOk X.prog X.w X.K X.mg X.base CX k f fd D (t5 X.K (Ph (c9 c m)))/\Room k X.A/\o8 X.K fd D [])
  (y:Dk ((a::es).length+0) (Bp pos (Aj (a::es) X.env)) (El pos (DF [] X.env))=AC) (l:(apos.endLine==pos.line)=AC) (G:∀i p U,ob≠.Call (.Name i p) [] [] U) (ho:PE X ob (up X.K ta)) (ha:PA X (a::es) (upA X.K n t)) (Z:∀e p,a≠.Starred e p) (E:(Bp pos (Aj es X.env)).any (·.1)=AG) :
  PE X (.Call (.Attribute ob m apos) (a::es) [] pos) (up X.K λenv st Q=>ta env st λx b=>∃p c j,x=.ref p/\b p=AA (.ins c j)/\j.lookup m=AE/\F (c9 c m)=AC/\t env b λds g=>Ph (c9 c m) (.ref p::ds) g Q):=by
 intro h s L H Q I q;obtain⟨env,st,J,P,O,Y,hq⟩:=q;refine FV (thn (ho h s L H (λv u=>∃p c j b,v=.ref p/\Ev st H b u/\RelS X.K b u/\b p=AA (.ins c j)/\j.lookup m=AE/\F (c9 c m)=AC/\t env b λds g=>Ph (c9 c m) (.ref p::ds) g J) I ⟨env,st,_,P,O,Y,λv d u b z is o C=>?_⟩) λu s1 z39=>?_) (af5 G y l)
 ·obtain⟨p,c,j,rfl,C⟩:=C;exact⟨p,c,j,b,is.ref_inv,z,o,C⟩
 obtain⟨v,u,S,T,p,c,j,b,z,R,o,h1,h2,h3,h4⟩:=z39;subst z;cases T;obtain⟨B,dx,vs,hH,hn,r⟩:=o.ins h1;obtain⟨k,f,fd,D,cl,M,Fo,hr,hb⟩:=hM c B hn h3;have N:vs.lookup m=AE:=by
  rcases r.look m with⟨_,V⟩|⟨d',v',l1,_,_⟩
  ·exact V
  ·simp_all
 refine am8 S hH cl M N ?_;refine DD I.ok.mod.kin M.kp (thn (ha pos h s1 L u (λvs H2=>∃ds g,Ev b u g H2/\IsDs X.K H2 ds vs/\RelS X.K g H2/\Ph (c9 c m) (.ref p::ds) g J) S ⟨env,b,_,P.mono (R.tk O),o,h4,λvs ds H' st' z is N o q=>⟨ds,st',z,is,o,q⟩⟩) λus s2⟨vs,H2,I2,r2,ds,g,ev2,is2,rs2,q2⟩=>⟨I2.kIn,?_⟩) (n8 Z) E;exact T6 (vs:=.ref p::vs) Fo hr hb .nil W I2 (.cons rfl r2) ⟨.ref p::ds,g,J,by rw[BM];exact .cons (.ref p) is2,rs2,q2,(hq.after R).after ev2⟩
def b48(Z:B2 CX X E0){C:Str->List Str}{t:DA}{F:Str->Bool}
  (hM:∀c B i,Ae X.K AK c=AA (AA (.ref B))->F (c9 c m)=AC->z8 C (c9 c m)=AA i->∃k f fd E tk,Cls X.K B/\Meth X.K B m f/\FnOk X.prog X.w X.K X.mg X.base CX k f fd E (t5 X.K (Ph (c9 c m)))/\Room k X.A/\o8 X.K fd E [.int i tk])
  (y:Dk ((a::es).length+0) (Bp pos (Aj (a::es) X.env)) (El pos (DF [] X.env))=AC) (l:(apos.endLine==pos.line)=AC) (J:∀i p W,ob≠.Call (.Name i p) [] [] W) (ho:PE X ob (up X.K ta)) (ha:PA X (a::es) (upA X.K n t)) (hs:∀e p,a≠.Starred e p) (G:(Bp pos (Aj es X.env)).any (·.1)=AG) :
  PE X (.Call (.Attribute ob m apos) (a::es) [] pos) (up X.K λenv st Q=>ta env st λx b=>∃p c j i,x=.ref p/\b p=AA (.ins c j)/\j.lookup m=AE/\F (c9 c m)=AC/\z8 C (c9 c m)=AA i/\t env b λds g=>Ph (c9 c m) (.ref p::(ds++[.int i])) g Q):=by
 intro h s M H Q I q;obtain⟨env,st,L,S,R,ht,hq⟩:=q;refine FV (thn (ho h s M H (λv u=>∃p c j i b,v=.ref p/\Ev st H b u/\RelS X.K b u/\b p=AA (.ins c j)/\j.lookup m=AE/\F (c9 c m)=AC/\z8 C (c9 c m)=AA i/\t env b λds g=>Ph (c9 c m) (.ref p::(ds++[.int i])) g L) I ⟨env,st,_,S,R,ht,λv d u b z is o D=>?_⟩) λu s1 z40=>?_) (af5 J y l)
 ·obtain⟨p,c,j,i,rfl,D⟩:=D;exact⟨p,c,j,i,b,is.ref_inv,z,o,D⟩
 obtain⟨v,u,U,V,p,c,j,i,b,z,T,o,h1,h2,h3,h5,h4⟩:=z40;subst z;cases V;obtain⟨B,dx,vs,hH,hn,r⟩:=o.ins h1;obtain⟨k,f,fd,E,tk,cl,N,Fo,hr,hb⟩:=hM c B i hn h3 h5;have P:vs.lookup m=AE:=by
  rcases r.look m with⟨_,Y⟩|⟨d',v',O,_,_⟩
  ·exact Y
  ·rw[h2]at O;cases O
 refine am8 U hH cl N P ?_;refine DD (first:=[.ref p]) (h₀:=X.base) I.ok.mod.kin N.kp (thn (ha pos h s1 M u (λvs H2=>∃ds g,Ev b u g H2/\IsDs X.K H2 ds vs/\RelS X.K g H2/\Ph (c9 c m) (.ref p::(ds++[.int i])) g L) U ⟨env,b,_,S.mono (T.tk R),o,h4,λvs ds H' st' z is P o q=>⟨ds,st',z,is,o,q⟩⟩) λus s2⟨vs,H2,I2,r2,ds,g,ev2,is2,rs2,q2⟩=>⟨I2.kIn,?_⟩) (n8 hs) G;exact T6 (us:=.ref p::us) (vs:=.ref p::vs) Fo hr hb (dvs:=[.int i]) (.cons ⟨_,rfl⟩ .nil) Z I2 (.cons rfl r2) ⟨.ref p::(ds++[.int i]),g,L,.cons (.ref p) (is2.append (.cons (.int i) .nil)),rs2,q2,(hq.after T).after ev2⟩
def b00(J:B2 CX X E0){F:Str->Bool}
  (U:∀c h,Ae X.K AK c=AA (AA (.ref h))->F (c9 c m)=AC->∃k f fd o,Cls X.K h/\Meth X.K h m f/\FnOk X.prog X.w X.K X.mg X.base CX k f fd o (t5 X.K (Ph (c9 c m)))/\Room k X.A/\o8 X.K fd o [])
  (e:(apos.endLine==pos.line)=AC) (t:∀i p E,ob≠.Call (.Name i p) [] [] E) (O:PE X ob (up X.K ta)) :
  PE X (.Call (.Attribute ob m apos) [] [] pos) (up X.K λenv st Q=>ta env st λx a=>∃p c b,x=.ref p/\a p=AA (.ins c b)/\b.lookup m=AE/\F (c9 c m)=AC/\Ph (c9 c m) [.ref p] a Q):=by
 intro g s C H Q I q;obtain⟨env,st,B,W,T,L,N⟩:=q;refine FV (thn (O g s C H (λv l=>∃p c b a,v=.ref p/\Ev st H a l/\RelS X.K a l/\a p=AA (.ins c b)/\b.lookup m=AE/\F (c9 c m)=AC/\Ph (c9 c m) [.ref p] a B) I ⟨env,st,_,W,T,L,λv d l a u is j n=>?_⟩) λu s1 z41=>?_) (af5 t rfl e)
 ·obtain⟨p,c,b,rfl,n⟩:=n;exact⟨p,c,b,a,is.ref_inv,u,j,n⟩
 obtain⟨v,l,y,D,p,c,b,a,u,e1,j,h1,h2,Z,Y⟩:=z41;subst u;cases D;obtain⟨h,dx,vs,V,P,r⟩:=j.ins h1;obtain⟨k,f,fd,o,cl,z,Fo,M,S⟩:=U c h P Z;have R:vs.lookup m=AE:=by
  rcases r.look m with⟨_,G⟩|⟨d',v',l1,_,_⟩
  ·exact G
  ·simp_all
 refine am8 y V cl z R ?_;exact IN y.kIn z.kp (T6 (vs:=[.ref p]) Fo M S .nil J y (.cons rfl .nil) ⟨[.ref p],a,B,by exact .cons (.ref p) .nil,j,Y,N.after e1⟩)
def bc2{c}{H1}{st st1}{Qd}{Q}(B:Ae X.K AK c=AA (AA (.ref Ca)))(C:Ev st H st1 H1)(y:IsDs X.K H1 ds vs)(l:RelS X.K st1 H1)(A:w6 X.K st H Qd Q)
  (q:∀p,st1 p=AE->sp (.ref p::ds) (b0 st1 p (.ins c [])) λv st2=>v=.non/\Qd (.ref p) st2):∀x a,H1 x=AE->H1 a=AE->a≠x->t5 X.K sp (.ref x::(vs++[])) (upd (upd H1 a (.own x)) x (.ins Ca a [])) (λv H2=>v=.non/\Q (.ref x) H2) E0:=by
 intro x a j e k;have g:TK X.K H1 (upd H1 a (.own x)):=TK.new e;have i:upd H1 a (.own x) x=AE:=f9 (λz=>k z.symm)▸j
 have f:TK X.K (upd H1 a (.own x)) (upd (upd H1 a (.own x)) x (.ins Ca a [])):=TK.new i;refine⟨.ref x::ds,b0 st1 x (.ins c []),_,by rw[BM];exact .cons (.ref x) ((y.mono g).mono f),(l.new e).putAny f ⟨Ca,a,[],o0,B,.nil⟩ (by simp_all),q x (l.free j),λv d H2 st2 ev2 is2 rs2 h=>?_⟩;obtain⟨rfl,h⟩:=h;cases is2;refine⟨rfl,A _ (.ref x) H2 st2 (λb o hb hs=>?_) (.ref x) rs2 h⟩;obtain⟨⟨u,n,s⟩,F⟩:=C b o hb hs;have m:=o7 n j;have w:=o7 n e;obtain⟨⟨t,E,r⟩,D⟩:=ev2 b u (by rwa[f9 m,f9 w]) (B6 m▸F);exact⟨⟨t,E,s.trans r⟩,D⟩
def b87(g:B2 CX X E0){c}{k}{t}{f}(m:Ae X.K AK c=AA (AA (.ref Ca)))(M:Mk X.K Ca f)(z:FnOk X.prog X.w X.K X.mg X.base CX k f fd ps (t5 X.K sp))(j:Room (k+1) X.A)(r:Gl X c)(o:X.mg c=AA (.ref Ca))(s:o8 X.K fd ps [])
  (u:PA X (a::es) (upA X.K n t)) (d:(c==("__debug__":Str))=AG) (i:∀e p,a≠.Starred e p) (b:(Bp pos (Aj es X.env)).any (·.1)=AG) :
  PE X (.Call (.Name c p) (a::es) [] pos) (up X.K λenv st Q=>t env st λds st1=>∀p,st1 p=AE->sp (.ref p::ds) (b0 st1 p (.ins c [])) λv st2=>v=.non/\Q (.ref p) st2):=
 PE.imp (ce3 M z j r o s .nil g u d (n8 i) b) λσ H Q q=>by
  obtain⟨env,st,B,y,x,h,l⟩:=q;exact⟨env,st,_,y,x,h,λvs ds H' st' ev is hl rs=>bc2 m ev is rs l⟩
def b44(b:B2 CX X E0){c}{k}{f}(h:Ae X.K AK c=AA (AA (.ref Ca)))(M:Mk X.K Ca f)(n:FnOk X.prog X.w X.K X.mg X.base CX k f fd ps (t5 X.K sp))(e:Room (k+1) X.A)(j:Gl X c)(i:X.mg c=AA (.ref Ca))(l:o8 X.K fd ps [])(a:(c=="__debug__")=AG):
  PE X (.Call (.Name c p) [] [] pos) (up X.K λenv st Q=>∀p,st p=AE->sp [.ref p] (b0 st p (.ins c [])) λv st2=>v=.non/\Q (.ref p) st2):=
 PE.imp (bx6 M n e j i l .nil b a) λσ H Q q=>by
  obtain⟨env,st,r,o,m,d,g⟩:=q;exact bc2 h Ev.refl .nil m g d
def tyL{K}{st}{d}{v}(b:IsD K H d v)(a:RelS K st H)(h:E3 d st):tyV K "list" v H:=by
 cases d<;>first|exact AU h|skip
 obtain⟨ds,e⟩:=h;obtain⟨vs,c,_⟩:=a.rd e;rw[b.ref_inv];exact .inl ⟨rfl,vs,c⟩
def at2{nm}{id}{r}{g:D->D->Sto->DK->Prop}(l:Slot "list" nm id)(z:KJ (.builtin id)=pure (.type "method_descriptor"))(R:MtR X id r)
  (U:PE X a (up X.K ta)) (T:PE X b (up X.K tb)) (j:∀i p L,a≠.Call (.Name i p) [] [] L) (A:∀e p,b≠.Starred e p) (h:(apos.endLine==pos.line)=AC)
  (u:∀v w d e k c n Q,IsD X.K k d v->IsD X.K k e w->RelS X.K c k->g d e c n->w6 X.K c k n Q->r v [w] k Q) :
  PE X (.Call (.Attribute a nm apos) [b] [] pos) (up X.K λenv st Q=>ta env st λx st1=>E3 x st1/\tb env st1 λy f=>g x y f Q):=
 PE.imp (c59 PySem.F.plainAttrs_list l z R U (L9 T A) (C7 j) (by rw[n8 A];rfl) h (n8 A) rfl) λσ H Q q=>by
  obtain⟨env,st,n,G,E,O,P⟩:=q;refine⟨env,st,_,G,E,O,λv d H1 st1 I is s C=>⟨tyL is s C.1,?_⟩⟩;refine⟨env,st1,λds f=>match ds with|[e]=>g d e f n|_=>False,G.mono (I.tk E),s,C.2,λvs ds k c m t S o J=>?_⟩
  match ds,S with
  |[e],_=>
   obtain⟨w,V,rfl,N,M⟩:=t.inv_cons;rw[M.inv_nil];exact u v w d e k c n Q (is.mono (m.tk s)) N o J ((P.after I).after m)
def cj2(o:PE X a (up X.K ta))(n:PE X b (up X.K tb))(f:∀i p k,a≠.Call (.Name i p) [] [] k)(m:∀e p,b≠.Starred e p)(c:(apos.endLine==pos.line)=AC):
  PE X (.Call (.Attribute a "append" apos) [b] [] pos) (up X.K λenv st Q=>ta env st λx st1=>E3 x st1/\tb env st1 λy st2=>ab9 x y st2 Q):=
 at2 PySem.F.slot_list_append PySem.F.type_list_append a53 o n f m c λv w d e H' st' Qd Q i1 i2 rs g hq=>by
  cases d<;>first|exact AU g|skip
  obtain⟨ds,h,l,g⟩:=g;obtain⟨vs,j,r⟩:=rs.lst h;rw[i1.ref_inv];exact⟨_,vs,w,rfl,rfl,j,r.len▸l,hq _ _ _ _ (Ev.put h) .non (rs.putOld j (r.append (.cons i2 .nil))) g⟩
def ck3(t:PE X a (up X.K ta))(s:PE X b (up X.K tb))(f:∀i p o,a≠.Call (.Name i p) [] [] o)(q:∀e p,b≠.Starred e p)(c:(apos.endLine==pos.line)=AC):
  PE X (.Call (.Attribute a "extend" apos) [b] [] pos) (up X.K λenv st Q=>ta env st λx st1=>E3 x st1/\tb env st1 λy st2=>ac6 x y st2 Q):=
 at2 PySem.F.slot_list_extend PySem.F.type_list_extend bs6 t s f q c λv w d e H' st' Qd Q i1 i2 rs g hq=>by
  cases d<;>first|exact AU g|(cases e<;>first|exact AU g|skip)
  ·obtain⟨ds,v,l,h,u,g⟩:=g;obtain⟨vs,m,r⟩:=rs.lst l;obtain⟨n,j,k⟩:=rs.lst h;rw[i1.ref_inv,i2.ref_inv];exact⟨_,_,vs,n,rfl,rfl,m,j,by rwa[<-r.len,<-k.len],hq _ _ _ _ (Ev.put l) .non (rs.putOld m (r.append k)) g⟩
def bz7(z:PE X a (up X.K ta))(v:PE X b (up X.K tb))(f:∀i p q,a≠.Call (.Name i p) [] [] q)(s:∀e p,b≠.Starred e p)(c:(apos.endLine==pos.line)=AC):
  PE X (.Call (.Attribute a "pop" apos) [b] [] pos) (up X.K λenv st Q=>ta env st λx st1=>E3 x st1/\tb env st1 λy st2=>ar2 x y st2 Q):=
 at2 PySem.F.slot_list_pop PySem.F.type_list_pop by3 z v f s c λv w d e H' st' Qd Q i1 i2 rs g hq=>by
  cases d<;>first|exact AU g|(cases e<;>first|exact AU g|skip)
  obtain⟨⟨E,D⟩,ds,k,d,m,t,u,g⟩:=g;obtain⟨vs,l,r⟩:=rs.lst m;obtain⟨n,j,h⟩:=r.get u;rw[i1.ref_inv,i2.int_inv];obtain⟨o,C,B,A⟩:=ap7 t;exact⟨_,vs,_,k,n,rfl,rfl,l,⋯,⋯,(r.len▸o),j,hq _ _ _ _ (Ev.put m) (h.mono (TK.put l)) (rs.putOld l (r.erase k)) g⟩
def cr0(o:PE X a (up X.K ta))(c:∀i p n,a≠.Call (.Name i p) [] [] n)(b:(apos.endLine==pos.line)=AC):
  PE X (.Call (.Attribute a "pop" apos) [] [] pos) (up X.K λenv st Q=>ta env st λx st1=>ac7 x st1 Q):=
 PE.imp (bi0 PySem.F.plainAttrs_list PySem.F.slot_list_pop PySem.F.type_list_pop cj6 o (C7 c) b) λσ H Q q=>up1 q λv d H' st' Qd is rs f hq=>by
  cases d<;>first|exact AU f|skip
  obtain⟨ds,d,l,f⟩:=f;obtain⟨vs,g,r⟩:=rs.lst l;have k:=r.len;rw[Ap,FH]at k;obtain⟨m,j,h⟩:=r.get (i:=ds.length) (d:=d) ∎;rw[is.ref_inv];refine⟨.inl ⟨rfl,vs,.inl (.inl g)⟩,_,vs,m,rfl,rfl,g,by rw[<-k];exact j,hq _ _ _ (b0 st' _ (.lst ds)) (Ev.put l) (h.mono (TK.put g)) (rs.putOld g ?_) f⟩;have e:vs.dropLast=vs.take ds.length:=by rw[List.dropLast_eq_take,<-k,JL]
  rw[e];have q:=r.take ds.length
  rwa [Je]at q
  rfl
end
end
section
variable [Tbs]
variable{s:AJ}
theorem a89{prog:AZ}{w:At}{A:BG}{E:AF->AJ->Prop}{items:Array AF}{x:AF}{e:Nat->Bool}{j:Nat}(g:j<items.size)(f:∀i(h:i<items.size),LG A s items[i] x (e i))
  (c:e j=AC) (b:∀i,i<j->e i=AG):∀k i,i+k=items.size->i<=j ->
   AQ (model prog w) A (forIn (LH i k) ((AE:Option PySem.Fin),()) λ(i:Nat)o=>
      match items[i]? with
      |some y=>do
       let a <-eqBool y x
       if a=AC then do
         let a <-retInt (i:Int)
         pure (ForInStep.done (AA a,()))
        else pure (Bg (AE,()))
      |x=>pure (Bg (AE,())))
    (λr s'=>r.1=AA (PySem.Fin.done (.ret (.int j s.toks)))/\s'={s with toks:=s.toks+1}) E s
 |0,i,m,l=>by lia
 |k+1,i,m,l=>by
  have hi:i<items.size:=by lia
  rw[JS,Jb];have n:items[i]?=AA items[i]:=by simp[hi]
  rw[n];dsimp only;refine AD (AD (f i hi prog w _ _ ?_))
  by_cases d:i=j
  ·subst d;rw[c,if_pos rfl];refine AD ?_;show AQ _ _ (mkInt (i:Int)>>=_) _ _ _;refine AD (Hh ?_);exact AL (AL (AL ⟨rfl,rfl⟩))
  ·rw[b i ⋯,if_neg AH];exact AL (a89 g f c b k (i+1) ⋯ ⋯)
def bo7{prog:AZ}{w:At}{A:BG}{E:AF->AJ->Prop}{a:AI}{items:Array AF}{x:AF}{e:Nat->Bool}{j:Nat}{Q:AF->AJ->Prop}(d:s.heap.IsTuple a items)(k:j<items.size)(l:∀i(h:i<items.size),LG A.in1 s items[i] x (e i))
  (c:e j=AC) (b:∀i,i<j->e i=AG) (p:Q (.int j s.toks) {s with toks:=s.toks+1}) :
  AQ (model prog w) A (call (.builtin "tuple.index") [.ref a,x]) Q E s:=by
 obtain⟨o,g,r,n,m⟩:=id d;refine BL F.slot_tuple_index d.typeIs F.entry_tuple_index ?_ (F.args_tuple_index_2 _ _);unfold CT.«tuple.index»;refine AD (GU (a:=(Al a,[x])) rfl ?_);dsimp only;refine AD ?_;unfold CO;refine AD (Eg g m (AL ?_));refine AD (AL (AD (AL (AD ?_))));rw[Ju];have f:(GV [0:min items.size items.size])=items.size:=by simp[GV]
 rw[f];refine BJ (a89 k l c b items.size 0 ⋯ (BU _)) (λr s' h=>?_) λ_ _ h=>h;obtain⟨q,rfl⟩:=h;rw[q];exact AL ⟨_,rfl,p⟩
section
variable {X:Cx} {a b c:AS} {ta tb tc:DT} {pos p:Pos}
def c97{pins}{b:L2.St}{H}{v}{u}{d}(I:L2.Inv X pins b H s)(g:IsD X.K H d v)(c:i7 v u)(h:∃ds,d=.tup ds):s.TypeIs u "tuple"/\∀a,u=.ref a->∃ob,s.heap.get? a=AA ob/\ob.dict=AE:=by
 obtain⟨ds,rfl⟩:=h;obtain⟨q,vs,rfl,i,r⟩:=g.tup_inv;cases c;obtain⟨f,m,⟨o,j,l,k,n,t⟩,p⟩:=I.tupleD i;exact⟨⟨o,j,l⟩,λa e=>by simp_all⟩
def b43{n:Pos}(hu:X.A.units+200<CG)(ha:PE X a (up X.K ta))(hb:PE X b (up X.K tb))(B:∀i p p',a≠.Call (.Name i p) [] [] p')(O:∀e p,b≠.Starred e p)(z:(n.endLine==pos.line)=AC):
  PE X (.Call (.Attribute a "index" n) [b] [] pos) (up X.K λenv st Q=>ta env st λx f=>ac2 x f/\tb env f λy c=>T5 x y c Q):=by
 intro l s σ H Q I q;obtain⟨env,st,Qd,hE,hS,ht,hq⟩:=q;refine JI (C7 B) (by rw[n8 O];rfl) z rfl (thn (ha l s σ H (λv C=>∃d f,Ev st H f C/\IsD X.K C d v/\RelS X.K f C/\ac2 d f/\tb env f λy c=>T5 d y c Qd) I ⟨env,st,_,hE,hS,ht,λv d C f P N M V=>⟨d,f,P,N,M,V⟩⟩) λu s1 z42=>?_);obtain⟨v,C,I1,r1,d,f,P,N,M,V,q2⟩:=z42;have J:=L9 hb O pos l s1 σ C (λvs D=>∃w e c,vs=[w]/\Ev f C c D/\IsD X.K D e w/\RelS X.K c D/\T5 d e c Qd) I1 ⟨env,f,(λds c=>match ds with|[e]=>T5 d e c Qd|_=>False),hE.mono (P.tk hS),M,q2,λvs ds D c k t hl o U=>by
  match ds,hl with
  |[e],_=>
   obtain⟨w,ws,rfl,i1,i2⟩:=t.inv_cons;rw[i2.inv_nil];exact⟨w,e,c,rfl,k,i1,o,U⟩⟩
 rw[n8 O]at J;cases d with
 |tup ds=>
  obtain⟨h1,h2⟩:=c97 I1 N r1 ⟨_,rfl⟩;refine⟨"tuple","tuple.index",PySem.F.plainAttrs_tuple,PySem.F.slot_tuple_index,PySem.F.type_tuple_index,h1,h2,?_⟩;rw[n8 O];refine Bq (by rfl) (Cm ?_);refine thn J λus s2 z43=>?_;obtain⟨vs,D,R,r2,w,e,c,ev',k,t,o,U⟩:=z43;subst ev';obtain⟨uw,rfl,S⟩:=r2.one;obtain⟨p1,p2,hd,j,dj,G,hit,hno,hQ⟩:=U;have Y:=N.mono (k.tk M);obtain⟨q,vs,rfl,Z,r⟩:=Y.tup_inv;cases r1;obtain⟨g,rv,pl,hz⟩:=R.tuple Z;have m:g.length=ds.length:=by rw[<-rv.length,<-r.len]
  have hj:j<ds.length:=(AT.mp G).1;obtain⟨as,ra⟩:=O9 R t p1 S;refine bo7 (items:=g.toArray) (j:=j) (e:=λi=>match ds[i]? with|some d=>deq d e|none=>AG) (show s2.heap.IsTuple q g.toArray from pl) (by simpa[m]using hj) (λi hi=>?_) (by rw[G];exact hit) (λi hi=>?_) ?_
  ·have h:i<ds.length:=by simpa[m]using hi
   have L:ds[i]?=AA ds[i]:=AO h;rw[L];obtain⟨v,hv,W⟩:=r.get L;obtain⟨u,E,T⟩:=rv.get hv;have pp:=az0 p2 ds[i] (Jf h);obtain⟨bs,rb⟩:=O9 R W pp T;have e2:g.toArray[i]=u:=by
    have:g[i]?=AA g[i]:=AO ⋯;rw[this]at E;simpa using BA E
   rw[e2];exact Iz _ _ X.A.in1 s2 u uw bs as rb ra (P6 _ pp) (P6 _ p1) (bc5 hu hd)
  ·have h:i<ds.length:=by lia
   have L:ds[i]?=AA ds[i]:=AO h;rw[L];exact hno i _ hi L
  ·exact⟨.int j,D,R.tok _,⟨_,rfl⟩,((hq.after P).after k).here (.int _) o hQ⟩
 |_=>exact V.elim
end
end
section
variable [Tbs]
variable{s:AJ}{g:Str}{kvs:List (Str×D)}
section
variable {X:Cx} {a b c:AS} {ta tb tc:DT} {pos p:Pos}
abbrev DPs(X:Cx)(pos:Pos)(keys:List (Option AS))(values:List AS)(ks:List Str)(t:DA):Prop:=
 ∃trs,PPs X pos keys values trs/\∀(σ:L2.St)(H:Hp)(Q:List (V×V)->Hp->Prop),(∃env st Qd,RelE X.K H env σ/\RelS X.K st H/\t env st Qd /\
  ∀vs ds H' st',Ev st H st' H'->IsDs X.K H' ds vs->ds.length=ks.length->RelS X.K st' H'->Qd ds st'->Q ((ks.zip vs).map λkv=>(V.str kv.1,kv.2)) H')->aa2 trs σ H Q
def cl8:DPs X pos [] [] [] (λ_ st Q=>Q [] st):=⟨[],b79,λσ H Q⟨env,st,Qd,hE,hS,ht,hq⟩=>hq [] [] H st Ev.refl .nil rfl hS ht⟩
def cd9{k}{j}{kp}{ks}{keys}{values}{t}(i:PE X a (up X.K ta))(g:DPs X pos keys values ks t):
  DPs X pos (AA (.Constant (.str k) j kp)::keys) (a::values) (k::ks) λenv st Q=>ta env st λd st1=>t env st1 λds st2=>Q (d::ds) st2:=by
 obtain⟨e,m,l⟩:=g;refine⟨_,b03 be2 i m,λσ H Q z44=>?_⟩;obtain⟨env,st,n,c,b,f,h⟩:=z44;exact⟨env,st,_,c,b,f,λv d H1 st1 ev is rs q1=>l σ H1 _ ⟨env,st1,_,c.mono (ev.tk b),rs,q1,λvs ds H2 st2 ev2 is2 hl=>h (v::vs) (d::ds) H2 st2 (ev.trans ev2) (.cons (is.mono (ev2.tk rs)) is2) (by simp[hl])⟩⟩
theorem az2:∀(a b:List (Key×V)),(∀k∈a.map (·.1),r8 b k=AE)->(a.map (·.1)).Nodup->N7 b a=b++a
 |[],b,_,_=>by simp[N7]
 |(k,v)::r,b,h,f=>by
  have c:=BR.mp ((f));show N7 (z0 b k v) r=_;rw[b34 v (h k ∎),az2 r _ (λk' hk'=>?_) c.2,Dl]
  ·rfl
  ·have d:k'≠k:=λz=>c.1 ((z▸hk'));have e:=h k' (by simp only[Ag,AR];exact .inr hk');unfold r8 at e ⊢;rw[Option.map_eq_none_iff]at e ⊢;rw[List.find?_append,e];simp[Ao d]
theorem a52:∀(ks:List Str)ds(vs)w(d){K}{H},IsDs K H ds vs->o9 (ks.zip ds) w=AA d->∃v,r8 ((ks.zip vs).map λkv=>((CD kv.1:Key),kv.2)) (CD w)=AA v/\IsD K H d v
 |[],ds,vs,w,d,K,H,r,h=>by simp[o9]at h
 |k::ks,[],vs,w,d,K,H,r,h=>by simp[o9]at h
 |k::ks,e::ds,vs,w,d,K,H,r,h=>by
  obtain⟨v,b,rfl,j,i⟩:=r.inv_cons;simp only[FD,o9]at h
  by_cases a:k=w
  ·rw[if_pos a]at h;cases h;refine⟨v,?_,j⟩;unfold r8;simp[a]
  ·rw[if_neg a]at h;obtain⟨c,g,f⟩:=a52 ks ds b w d i h;refine⟨c,?_,f⟩;unfold r8 at g ⊢;simp only[FD,Ag,Bk];have:AB ((CD k:Key)=CD w)=AG:=decide_eq_false λz=>a (Hk z);rwa[this]
def cf5{ks:List Str}{a:List (Option AS)}{f:List AS}{t:DA}{I:Pos}(hu:X.A.units+200<CG)(hd:DPs X I a f ks t)(n:a.all (·.isSome)=AC)(hl:a.length=f.length)(h0:a≠[])(hkl:a.length=ks.length)(D:a.length<=15)(W:ks.Nodup)
  (hb:PE X b (up X.K tb)) (B:∀l u s p,b≠.Slice l u s p) :
  PE X (.Subscript (.Dict a f I) b pos) (up X.K λenv st Q=>t env st λds st1=>tb env st1 λx st2=>∃w d,x=.str w/\o9 (ks.zip ds) w=AA d/\Q d st2):=by
 obtain⟨O,h1,h2⟩:=hd;refine PE.imp (cg0 ⋯ (cb3 h1 n hl h0 D) hb (am6 B)) λσ H Q q=>?_;obtain⟨env,st,Qd,G,C,ht,hq⟩:=q;intro p h;have sp:st p=AE:=C.free h;refine h2 σ _ _ ⟨env,st,_,G.mono (TK.new h),C.new h,ht,λvs ds H2 st2 ev2 is2 hl2 rs2 q2=>?_⟩;obtain⟨E,i⟩:=ev2.get o0 sp (λ_=>nofun);refine⟨E,(ks.zip vs).map λkv=>((CD kv.1:Key),kv.2),by rw[Cf];rfl,?_,?_⟩
 ·rw[AV,List.length_zip,<-is2.len,hl2];lia
 have hm:N7 [] ((ks.zip vs).map λkv=>((CD kv.1:Key),kv.2))=(ks.zip vs).map λkv=>((CD kv.1:Key),kv.2):=by
  rw[az2 _ [] (λ_ _=>rfl)]
  ·rfl
  ·rw[Cf];have:((λx:Key×V=>x.1)∘λkv:Str×V=>((CD kv.1:Key),kv.2))=(λx:Str=>(CD x:Key))∘(λkv:Str×V=>kv.1):=rfl;rw[this,<-Cf];have e:(ks.zip vs).map (λkv:Str×V=>kv.1)=ks:=by
    have:=List.map_fst_zip (l₁:=ks) (l₂:=vs) (by rw[<-is2.len,hl2];exact AX _);exact this
   rw[e];exact LJ _ (λa b hab z=>hab (Hk z)) W
 rw[hm];have g:TK X.K H2 (upd H2 p (.dK ((ks.zip vs).map λkv=>((CD kv.1:Key),kv.2)))):=TK.putD E;have j:RelS X.K st2 (upd H2 p (.dK ((ks.zip vs).map λkv=>((CD kv.1:Key),kv.2)))):=rs2.stay g (λc u z=>f9 λw=>by rw[w,i]at z;cases z) (af7 (by rw[E];exact λ_ z=>by cases z));refine⟨env,st2,_,((G.mono (TK.new h)).mono (ev2.tk (C.new h))).mono g,j,q2,λy x H4 st4 ev4 is4 rs4 r=>?_⟩;obtain⟨w,d,rfl,Y,r⟩:=r;obtain⟨e4,S⟩:=ev4.get o0 i (λ_=>nofun);have m:=(is2.mono g).mono (ev4.tk j);obtain⟨v,Z,y⟩:=a52 ks ds vs w d m Y;refine⟨p,v,rfl,?_,hq v d H4 st4 (λc o hc B=>?_) y rs4 r⟩
 ·rw[is4.str_inv,<-Z];exact F9.k (k:=CD w) e4
 ·have F:c≠p:=o7 hc h;obtain⟨⟨U,N,R⟩,L⟩:=ev2 c o (by rw[f9 F];exact hc) B;obtain⟨⟨T,M,P⟩,J⟩:=ev4 c U (by rw[f9 F];exact N) L;exact⟨⟨T,M,R.trans P⟩,J⟩
@[reducible]noncomputable def M3(h:Au)(a:AI)(T:List (Str×AF)):Prop:=KTD.TabOf (λ(d v:AF)=>v=d) h a T
def M3.typeIs{a}{T}(t:M3 s.heap a T):s.TypeIs (.ref a) "dict":=let⟨_,o,_,_,b,c,_⟩:=t;⟨o,b,c.1⟩
def M3.get{prog:AZ}{w:At}{A:BG}{E:AF->AJ->Prop}{s:AJ}{a:AI}{T:List (Str×AF)}{k:Str}{tk:Tok}{Q:Option AF->AJ->Prop}(t:M3 s.heap a T)
  (h:Q (Bu k T) {s with toks:=s.toks+1}):AQ (model prog w) A (Ki a (.str k tk)) Q E s:=by
 obtain⟨_,o,⟨l⟩,n,c,m,f,b⟩:=t;refine AD (FM (AD (KTD.kt_dictFind_strs (s:={s with toks:=s.toks+1}) c f (by simpa using b.exact) ?_)));have e:Bu k T=(l.find? λe=>e.key.isStr k).map (·.val):=by
  cases hat:Bu k T with
  |some d=>obtain⟨v,g,rfl⟩:=b.find_some hat;exact g.symm
  |none=>exact(b.find_none hat).symm
 have j:KC (λk v=>v.isStr k) (⟨l⟩:Array Dt) k=Bu k T:=by rw[e];simp[KC]
 rw[<-j,findBy_of_findIdx?]at h;cases hi:(⟨l⟩:Array Dt).findIdx? λe=>e.key.isStr k with
 |none=>rw[hi]at h;exact AL h
 |some i=>rw[hi]at h;exact AD (wpAny_dictEntries (s:={s with toks:=s.toks+1}) c f (AL h))
def bo5{prog}{w}{A}{E}{a}{T}{k}{tk}{u}{Q}(H:M3 s.heap a T)(b:Bu k T=AA u)
  (h:Q u {s with toks:=s.toks+1}):AQ (model prog w) A (EA (.ref a) (.str k tk)) Q E s:=by
 unfold EA
 try with_reducible refine BO ?_
 refine AD (HG H.typeIs ∅ ?_);refine AD (BN H.typeIs Kj
  (BL Kj H.typeIs entry_dict_getitem ?_ (args_dict_getitem _ _)))
 show AQ _ _ (Ki a (.str k tk)>>=_) _ _ s;refine AD (H.get ?_);rw[b];exact AL ⟨u,rfl,AL h⟩
def M3.dget{prog:AZ}{w:At}{A:BG}{E:AF->AJ->Prop}{a:AI}{T:List (Str×AF)}{k:Str}{tk:Tok}{r:AF}{Q:AF->AJ->Prop}(t:M3 s.heap a T)
  (h:Q ((Bu k T).getD r) {s with toks:=s.toks+1}):AQ (model prog w) A (call (.builtin "dict.get") [.ref a,.str k tk,r]) Q E s:=by
 refine BL PySem.F.slot_dict_get t.typeIs PySem.F.entry_dict_get ?_ (PySem.F.args_dict_get_3 _ _ _);show AQ _ _ (Ki a (.str k tk)>>=_) _ _ s;refine AD (t.get ?_);cases hf:Bu k T with
 |some v=>rw[hf]at h;exact AL ⟨v,rfl,h⟩
 |none=>
  rw[hf]at h;show AQ _ _ (Lb a (.str k tk)>>=_) _ _ _;exact AD (wpAny_missed_other t.1 (AL ⟨r,rfl,h⟩))
structure GTab(P:AZ)(w:At)(K:AM)(mg:Str->Option AF)(g:Str)(kvs:List (Str×D)):Prop where
 ex:∃(a:AI)(T:List (Str×AF)),mg g=AA (.ref a)/\(∀h:Au,K.In h->M3 h a T)/\(∀x d,o9 kvs x=AA d->∃u v,Bu x T=AA u/\i7 v u/\∀H,IsD K H d v)/\∀x,o9 kvs x=AE->Bu x T=AE
def b59(T:kvs≠[]->GTab X.prog X.w X.K X.mg g kvs)(L:Gl X g)(M:PE X b (up X.K tb))(E:∀l u s p,b≠.Slice l u s p)(k:(g=="__debug__")=AG):
  PE X (.Subscript (.Name g p) b pos) (up X.K λenv st Q=>kvs≠[]/\tb env st λx st1=>∃w d,x=.str w/\o9 kvs w=AA d/\Q d st1):=by
 intro e s m H Q I q;obtain⟨env,st,o,P,O,⟨j,f⟩,i⟩:=q;obtain⟨t,vs,G,N,J,_⟩:=(T j).ex;have q:up X.K (λenv st Q=>tb env st λx st1=>∃w d,x=.str w/\o9 kvs w=AA d/\Q d st1) m H Q:=⟨env,st,o,P,O,f,i⟩;refine ba2 PySem.F.slot_dict_getitem.lookup (am6 E) (E5 I L G ?_ k);refine thn (M e s m H (λv H1=>∃(w:Str)(d:D),v=.str w/\o9 kvs w=AA d/\∀c,IsD X.K H1 d c->Q c H1) I (up1 q λv d H' st' o is rs f i=>?_)) λiv s2 z45=>?_
 ·obtain⟨w,d,rfl,h,f⟩:=f;exact⟨w,d,is.str_inv,h,λv' a=>i.here a rs f⟩
 ·obtain⟨y,z,r,A,w,d,S,h,C⟩:=z45;subst S;obtain⟨U,rfl⟩:=A;obtain⟨u,c,R,B,a⟩:=J w d h;have n:=N s2.heap r.kIn;exact⟨n.typeIs,bo5 n R ⟨c,z,r.tok _,B,C c (a z)⟩⟩
def b80{apos}(T:kvs≠[]->GTab X.prog X.w X.K X.mg g kvs)(V:Gl X g)(W:PE X b (up X.K tb))(r:PE X c (up X.K tc))(P:∀e p,b≠.Starred e p)(k:∀e p,c≠.Starred e p)(i:(apos.endLine==pos.line)=AC)(n:(g=="__debug__")=AG):
  PE X (.Call (.Attribute (.Name g p) "get" apos) [b,c] [] pos) (up X.K λenv st Q=>kvs≠[]/\tb env st λx f=>tc env f λy a=>∃w,x=.str w/\Q ((o9 kvs w).getD y) a):=by
 intro h s A H Q I q;obtain⟨env,st,L,G,E,⟨m,O⟩,B⟩:=q;obtain⟨t,vs,S,D,U,l⟩:=(T m).ex;have J:Bp pos (Aj [b,c] X.env)=[(AG,eval b X.env),(AG,eval c X.env)]:=by rw[n8 P,n8 k];rfl
 refine Kg (C7 (λ_ _ _=>nofun)) (by rw[J];rfl) i PySem.F.plainAttrs_dict PySem.F.slot_dict_get PySem.F.type_dict_get (E5 I V S ?_ n);have C:=D s.heap I.kIn;refine⟨C.typeIs,λb e=>?_,?_⟩
 ·injection e with e
  subst e;obtain⟨_,o,_,_,R,r,_⟩:=C;exact⟨o,R,r.2.1⟩
 ·rw[J];refine Bq rfl (Cm (DL (thn (W h s A H (λv H1=>∃d f,Ev st H f H1/\IsD X.K H1 d v/\RelS X.K f H1/\tc env f λy a=>∃w,d=.str w/\L ((o9 kvs w).getD y) a) I ⟨env,st,_,G,E,O,λv d H' st' ev is rs q=>⟨d,st',ev,is,rs,q⟩⟩) λiv s2⟨y,H2,I2,ry,d,f,ev1,is1,rs1,q1⟩=>
   DL (thn (r h s2 A H2 (λv H3=>∃e a,Ev f H2 a H3/\IsD X.K H3 e v/\RelS X.K a H3/\∃w,d=.str w/\L ((o9 kvs w).getD e) a) I2 ⟨env,f,_,G.mono (ev1.tk E),rs1,q1,λv d H' st' ev is rs q=>⟨d,st',ev,is,rs,q⟩⟩) λfv s3⟨z,H3,I3,rz,e,a,ev2,is2,rs2,w,ew,q2⟩=>EQ ?_))))
  subst ew;rw[is1.str_inv]at ry;obtain⟨tt,rfl⟩:=ry;refine(D s3.heap I3.kIn).dget ?_;cases lk:o9 kvs w with
  |some Z=>
   obtain⟨u,M,Y,N,j⟩:=U w Z lk;rw[lk]at q2;rw[Y];exact⟨M,H3,I3.tok _,N,(B.after (ev1.trans ev2)).here (j H3) rs2 q2⟩
  |none=>
   rw[lk]at q2;rw[l w lk];exact⟨z,H3,I3.tok _,rz,(B.after (ev1.trans ev2)).here is2 rs2 q2⟩
abbrev S8:List Key->List AF->Bool
 |[],us=>us.isEmpty
 |k::ks,us=>DW (motive:=λ_=>Bool) us AG λu us=>Sum.casesOn (motive:=λ_=>Bool) k (λi=>Go i u) (λx=>HS x u)&&S8 ks us
theorem S8.is:∀{ks}{us},S8 ks us=AC->g9 (ks.map kV) us
 |[],[],_=>.nil
 |.inl i::ks,u::us,h=>have h:=FW.mp h;.cons (GN h.1) (S8.is h.2)
 |.inr x::ks,u::us,h=>have h:=FW.mp h;.cons (IR h.1) (S8.is h.2)
abbrev au8(ks:List Key):Option Obj->Bool
 |some o=>(match o.data with|.seq its _=>(o.cls==.type "tuple")&&o.dict.isNone&&AB (its.size<=1000)&&(S8 ks its.toList&&D.pures (ks.map kD))|_=>AG)
 |none=>AG
abbrev Q2(K:AM):D->AF->Bool
 |.int j,u=>Go j u
 |.fn f,.ref a=>Ae K AK f==AA (AA (.ref a))
 |.ktup ns,.ref a=>au8 ns (K.lookup a)
 |_,_=>AG
theorem Q2.is{K:AM}{d:D}{u:AF}(h:Q2 K d u=AC):∃v,i7 v u/\∀H,IsD K H d v:=by
 cases d<;>first|exact⟨.int _,GN h,λH=>.int _⟩|(cases u<;>first|exact nomatch (show AG=AC from h)|skip)
 ·exact⟨.ref _,rfl,λH=>.fn (LD h)⟩
 ·rename_i f a;have h:au8 f (K.lookup a)=AC:=h;cases hk:K.lookup a with
  |none=>rw[hk]at h;cases h
  |some o=>
   obtain⟨c,d,x,g⟩:=o;rw[hk]at h;cases x<;>first|exact nomatch (show AG=AC from h)|skip
   rename_i e n;simp only[au8,BD,beq_iff_eq,decide_eq_true_eq]at h;exact⟨.ref a,rfl,λH=>.ktup (.inr ⟨_,e,n,hk,h.1.1.1,by simpa using h.1.1.2,rfl,Ax h.1.2 ∅,S8.is h.2.1⟩) h.2.2⟩
abbrev as6(K:AM)(e:Dt)(p:Str×D):Bool:=(match e.key with|.str x _=>x==p.1|_=>AG)&&Q2 K p.2 e.val
abbrev W4(K:AM):List Dt->List (Str×D)->Bool
 |[],[]=>AC
 |e::es,p::ps=>as6 K e p&&W4 K es ps
 |_,_=>AG
abbrev ab0(K:AM)(a:AI)(kvs:List (Str×D)):Bool:=match K.lookup a with
 |some ⟨c,dd,.dict es _,sl⟩=>(c==.type "dict")&&dd.isNone&&sl.isEmpty&&W4 K es.toList kvs&&!(a==CK)
 |_=>AG
abbrev X1:List Dt->List (Str×D)->List (Str×AF)
 |e::es,(x,_)::r=>(x,e.val)::X1 es r
 |_,_=>[]
theorem bb9{K}:∀(b)a,W4 K b a=AC->KTD.Rows (λd v=>v=d) b (X1 b a)
 |[],[],_=>.nil
 |[],_::_,h'=>by cases h'
 |_::_,[],h'=>by cases h'
 |e::b,(x,d)::f,h'=>by
  simp only[W4,as6,BD]at h';obtain⟨⟨c,_⟩,g⟩:=h'
  split at c
  ·rename_i y t h;have:=by simpa using c
   subst this;exact .cons h rfl (bb9 b f g)
  ·cases c
theorem ao8{K}:∀a(b),W4 K b a=AC->∀x,(∀d,o9 a x=AA d->∃u v,Bu x (X1 b a)=AA u/\i7 v u/\∀H,IsD K H d v)/\(o9 a x=AE->Bu x (X1 b a)=AE)
 |[],[],_,x=>⟨λd h=>(nomatch h),λ_=>rfl⟩
 |[],_::_,h',x=>by cases h'
 |(y,e)::r,[],h',x=>by cases h'
 |(y,e)::r,l::b,h',x=>by
  simp only[W4,as6,BD]at h';obtain⟨⟨_,j⟩,i⟩:=h';have k:=ao8 r b i x;simp only[o9,X1,Bu]
  by_cases c:y=x
  ·rw[if_pos c,if_pos (by simp[c])];obtain⟨v,f,g⟩:=Q2.is j;exact⟨λd h=>by cases h;exact⟨_,v,rfl,f,g⟩,λh=>by cases h⟩
  ·rwa[if_neg c,if_neg (by simp[Ao c])]
def aq6{P}{w}{K}{mg}{h}{a}(o:K.In h)(G:h.Ns AK mg)(n:Ae K AK g=AA (AA (.ref a)))(b:ab0 K a kvs=AC):GTab P w K mg g kvs:=by
 unfold ab0 at b
 split at b
 ·rename_i c dd e i p f;simp only[BD,beq_iff_eq,EU]at b;obtain⟨⟨⟨⟨m,l⟩,k⟩,d⟩,j⟩:=b;refine⟨a,X1 e.toList kvs,DG o G n,λh' hK'=>⟨j,_,e,i,hK' a _ f,⟨m,by simpa using l,by simpa using k⟩,rfl,bb9 _ _ d⟩,λx=>(ao8 kvs _ d x).1,λx=>(ao8 kvs _ d x).2⟩
 ·cases b
end
end
section
variable [Tbs]
variable{q:AI}{ds:List D}{H1:Hp}
section
variable {X:Cx} {a b c:AS} {ta tb tc:DT} {pos p:Pos}
structure ItOk(K:AM)(H1:Hp)(J:L2.It)(items:List D)(chk:Sto->Prop):Prop where
 go:∀(i:Nat)st H,TK K H1 H->RelS K st H->chk st->i<items.length->J.go i H
 yld:∀(i:Nat)st H x H',TK K H1 H->RelS K st H->chk st->i<items.length->J.yld i H x H'->∃d,items[i]?=AA d/\IsD K H' d x/\Ev st H st H'/\RelS K st H'
 stop:∀st H,TK K H1 H->RelS K st H->chk st->J.stop items.length H
abbrev upI(K:AM)(t:i9->Sto->ItK->Prop):TI:=λσ H R=>∃env st k,RelE K H env σ/\RelS K st H/\t env st k/\∀items chk st' H' J,Ev st H st' H'->RelS K st' H'->ItOk K H' J items chk->k items chk st'->R J H'
def _root_.L2.PI.imp{X}{tg x}{t t'}(h:PI X tg x t)(i:∀a H Q,t' a H Q->t a H Q):PI X tg x t':=λpins s a H Q I q=>h pins s a H Q I (i a H Q q)
variable {K:AM}
def cp1{vs:List V}(a:SqT K H1 q vs)(r:IsDs K H1 ds vs):ItOk K H1 (Itt K q) ds (λ_=>True) where
 go:=λi st H tk rs _ hi=>by
  obtain⟨v,c,_⟩:=r.get (AO hi);exact⟨vs,v,tk.1.1 _ _ a,c⟩
 yld:=λi st H x H' tk rs _ hi y=>by
  obtain⟨rfl,y⟩:=y;obtain⟨d,e,b⟩:=r.get' (y vs (tk.1.1 _ _ a));exact⟨d,e,b.mono tk,Ev.refl,rs⟩
 stop:=λst H tk rs _=>⟨vs,tk.1.1 _ _ a,r.len▸AX _⟩
def cp3:ItOk K H1 (Itl K q) ds λst=>rdS st q ds where
 go:=λi st H tk rs hc hi=>by
  obtain⟨vs,a,r⟩:=rs.rd hc;obtain⟨v,c,_⟩:=r.get (AO hi);exact⟨vs,v,a,c⟩
 yld:=λi st H x H' tk rs hc hi y=>by
  obtain⟨rfl,y⟩:=y;obtain⟨vs,a,r⟩:=rs.rd hc;obtain⟨d,e,b⟩:=r.get' (y vs a);exact⟨d,e,b,Ev.refl,rs⟩
 stop:=λst H tk rs hc=>by
  obtain⟨vs,a,r⟩:=rs.rd hc;exact⟨vs,a,r.len▸AX _⟩
def bf2{lo}{n}:ItOk K H1 (Itr lo n) (v5 lo n) (λ_=>True) where
 go:=λi st H tk rs _ hi=>by show i<n;simpa[v5]using hi
 yld:=λi st H x H' tk rs _ hi y=>by
  obtain⟨rfl,rfl⟩:=y;have a:=by simpa[v5]using hi
  exact⟨.int (lo+i),by simp[v5,a],.int _,Ev.refl,rs⟩
 stop:=λst H tk rs _=>by show n<=(v5 lo n).length;simp[v5]
theorem an5:∀ds(k),(p8 k ds).length=ds.length
 |[],_=>rfl
 |d::ds,k=>by simp[p8,an5 ds (k+1)]
theorem a54:∀ds(k i:Nat)(d:D),ds[i]?=AA d->(p8 k ds)[i]?=AA (.tup [.int ((k+i:Nat)),d])
 |[],k,i,d,h=>by simp at h
 |e::ds,k,0,d,h=>by simp at h;subst h;rfl
 |e::ds,k,i+1,d,h=>by
  have:=a54 ds (k+1) i d (by simpa using h);have e:k+(i+1)=k+1+i:=by lia
  rw[e];simpa[p8]using this
def bd1{sq}{chk}(h:∀st H,TK K H1 H->RelS K st H->chk st->∃vs,sq H vs/\IsDs K H ds vs):ItOk K H1 (Ite K sq) (p8 0 ds) chk where
 go:=λi st H tk rs hc hi=>by
  obtain⟨vs,a,r⟩:=h st H tk rs hc;rw[an5]at hi;obtain⟨v,f,_⟩:=r.get (AO hi);exact⟨vs,v,a,f⟩
 yld:=λi st H x H' tk rs hc hi y=>by
  obtain⟨t,v,b,rfl,rfl,y⟩:=y;obtain⟨vs,a,r⟩:=h st H tk rs hc;obtain⟨d,g,c⟩:=r.get' (y vs a);refine⟨_,a54 ds 0 i d g,IsD.mk (SqX.of o0) (.cons ?_ (.cons (c.mono (TK.new b)) .nil)),Ev.new b,rs.new b⟩;have e:0+i=i:=by simp
  rw[e];exact .int _
 stop:=λst H tk rs hc=>by
  obtain⟨vs,a,r⟩:=h st H tk rs hc;exact⟨vs,a,by rw[an5,r.len]⟩
def cu2:ItOk K H1 (Itv K q ds.length) ds.reverse λst=>rdS st q ds where
 go:=λi st H tk rs hc hi=>by
  obtain⟨vs,a,r⟩:=rs.rd hc;exact⟨⟨vs,a,r.len.symm⟩,by simp_all⟩
 yld:=λi st H x H' tk rs hc hi y=>by
  obtain⟨rfl,y⟩:=y;obtain⟨vs,a,r⟩:=rs.rd hc;have b:i<ds.length:=by simp_all
  obtain⟨d,e,c⟩:=r.get' (y vs a);exact⟨d,FI b▸e,c,Ev.refl,rs⟩
 stop:=λst H tk rs hc=>by
  obtain⟨vs,a,r⟩:=rs.rd hc;exact⟨⟨vs,a,r.len.symm⟩,∎⟩
variable {tg:AS}
def cu4(C:PE X a (up X.K ta)):PI X tg a (upI X.K λenv st k=>ta env st λd b=>(∃ds,d=.tup ds/\k ds (λ_=>True) b)\/∃a ds,d=.ref a/\rdS b a ds/\k ds (λst'=>rdS st' a ds) b):=by
 intro j s x H R I q;obtain⟨env,st,u,E,D,A,w⟩:=q;refine thn (C j s x H (λv f=>∃d b,Ev st H b f/\IsD X.K f d v/\RelS X.K b f/\((∃ds,d=.tup ds/\u ds (λ_=>True) b)\/∃a ds,d=.ref a/\rdS b a ds/\u ds (λst'=>rdS st' a ds) b)) I ⟨env,st,_,E,D,A,λv d f b m l i h=>⟨d,b,m,l,i,h⟩⟩) λu s1 z46=>?_
 obtain⟨v,f,g,n,d,b,m,l,i,h⟩:=z46;rcases h with⟨ds,rfl,h⟩|⟨q,ds,rfl,B,h⟩
 ·obtain⟨q,vs,rfl,c,r⟩:=l.tup_inv;cases n;obtain⟨t,y,p,z⟩:=g.tuple c;refine Em (p) ?_;refine⟨s1.heap.objs.size,[s1.heap.objs.size],_,_,f,rfl,g.kept λb o=>AN _,br1 q _,⟨_,Ar _ rfl,rfl,rfl⟩,λb hb=>?_,w ds _ b f _ m i (cp1 c r) h⟩;have e:=by simpa using hb
  subst e;exact g.fpOk (AX _) (g.hok.fresh (AX _))
 ·rw[l.ref_inv]at n;cases n;obtain⟨vs,c,r⟩:=i.rd B;obtain⟨t,y,p,z⟩:=g.list c;refine wpAny_pyIter_list p.isList ?_;refine⟨s1.heap.objs.size,[s1.heap.objs.size],_,_,f,rfl,g.kept λb o=>AN _,bu2 q _,⟨_,Ar _ rfl,rfl,rfl⟩,λb hb=>?_,w ds _ b f _ m i cp3 h⟩;have e:=by simpa using hb
  subst e;exact g.fpOk (AX _) (g.hok.fresh (AX _))
def cn3(o:Gl X "range")(n:X.mg "range"=AE)(r:PE X a (up X.K ta))(c:∀e p,a≠.Starred e p):PI X tg (.Call (.Name "range" p) [a] [] pos) (upI X.K λenv st k=>ta env st λd st1=>∃j:Int,d=.int j/\(-2^62<=j/\j<2^62)/\k (v5 0 j.toNat) (λ_=>True) st1):=
 PI.imp (bv0 o n (L9 r c) (by rw[n8 c];rfl)) λσ H R q=>by
  obtain⟨env,st,g,t,s,l,m⟩:=q;refine⟨env,st,λds st1=>match ds with|[d]=>∃j:Int,d=.int j/\(-(2^62)<=j/\j<2^62)/\g (v5 0 j.toNat) (λ_=>True) st1|_=>False,t,s,l,λvs ds H' st' ev is hl rs b=>?_⟩
  match ds,hl with
  |[d],_=>
   obtain⟨v,u,rfl,i,h⟩:=is.inv_cons;rw[h.inv_nil];obtain⟨j,rfl,f,b⟩:=b;exact⟨j,by rw[i.int_inv],f.1,f.2,m _ _ st' H' _ ev rs bf2 b⟩
def cd2(y:Gl X "range")(u:X.mg "range"=AE)(A:PE X a (up X.K ta))(z:PE X b (up X.K tb))(g:∀e p,a≠.Starred e p)(c:∀e p,b≠.Starred e p):PI X tg (.Call (.Name "range" p) [a,b] [] pos) (upI X.K λenv st k=>ta env st λd st1=>tb env st1 λe st2=>∃i j:Int,d=.int i/\e=.int j/\(-(2^62)<=i/\i<2^62/\-(2^62)<=j/\j<2^62)/\k (v5 i (j-i).toNat) (λ_=>True) st2):=
 PI.imp (bv4 y u (be0 A z g c) (by rw[n8 g,n8 c];rfl) (by rw[n8 c];rfl)) λσ H R q=>by
  obtain⟨env,st,l,C,B,s,t⟩:=q;refine⟨env,st,(λds st1=>match ds with|[d,e]=>∃i j:Int,d=.int i/\e=.int j/\(-(2^62)<=i/\i<2^62/\-(2^62)<=j/\j<2^62)/\l (v5 i (j-i).toNat) (λ_=>True) st1|_=>False),C,B,s,λvs ds H' st' ev is hl rs f=>?_⟩
  match ds,hl with
  |[d,e],_=>
   obtain⟨v,D,rfl,r,o⟩:=is.inv_cons;obtain⟨w,h,rfl,n,m⟩:=o.inv_cons;rw[m.inv_nil];obtain⟨i,j,rfl,rfl,x,f⟩:=f;exact⟨i,j,by rw[r.int_inv,n.int_inv],x,t _ _ st' H' _ ev rs bf2 f⟩
def cb1{o:List AS}{k0}{tp}(G:Gl X "enumerate")(F:X.mg "enumerate"=AE)(J:PE X a (up X.K ta))(y:∀e p,a≠.Starred e p):PI X (.Tuple o k0 tp) (.Call (.Name "enumerate" p) [a] [] pos)
  (upI X.K λenv st k=>ta env st λd b=>(∃ds,d=.tup ds/\k (p8 0 ds) (λ_=>True) b)\/(∃a ds,d=.ref a/\rdS b a ds/\k (p8 0 ds) (λst'=>rdS st' a ds) b)):=by
 have x:Aj [a] X.env=[(AG,eval a X.env)]:=by rw[n8 y];rfl
 intro m s A H R I q;obtain⟨env,st,t,M,L,D,z⟩:=q;have N:=L9 J y;refine JX (L7 I G F L2.av9 (BH (thn (N pos m s A H (λvs H1=>∃v d b,vs=[v]/\Ev st H b H1/\IsD X.K H1 d v/\RelS X.K b H1/\((∃ds,d=.tup ds/\t (p8 0 ds) (λ_=>True) b)\/(∃a ds,d=.ref a/\rdS b a ds/\t (p8 0 ds) (λst'=>rdS st' a ds) b))) I
  ⟨env,st,(λds b=>match ds with|[d]=>(∃ds,d=.tup ds/\t (p8 0 ds) (λ_=>True) b)\/(∃a ds,d=.ref a/\rdS b a ds/\t (p8 0 ds) (λst'=>rdS st' a ds) b)|_=>False),M,L,D,λvs ds H' st' ev is hl rs i=>by
   match ds,hl with
   |[d],_=>
    obtain⟨v,O,rfl,C,B⟩:=is.inv_cons;rw[B.inv_nil];exact⟨v,d,st',rfl,ev,C,rs,i⟩⟩) λus s1⟨vs,H1,I1,r1,v,d,b,e1,ev,is,rs,i⟩=>?_) x rfl))
 subst e1;obtain⟨u,rfl,w⟩:=r1.one
 rcases i with⟨ds,rfl,i⟩|⟨q,ds,rfl,E,i⟩
 ·obtain⟨l,vs,rfl,h,r⟩:=is.tup_inv;cases w;exact b05 I1 h (z _ _ b H1 _ ev rs (bd1 λst H tk rs _=>⟨vs,tk.1.1 _ _ h,r.mono tk⟩) i)
 ·rw[is.ref_inv]at w;cases w;obtain⟨vs,h,r⟩:=rs.rd E;exact b09 I1 h (z _ _ b H1 _ ev rs (bd1 λst H tk rs hc=>rs.rd hc) i)
def cj4(A:Gl X "reversed")(y:X.mg "reversed"=AE)(B:PE X a (up X.K ta))(m:∀e p,a≠.Starred e p):PI X tg (.Call (.Name "reversed" p) [a] [] pos) (upI X.K λenv st k=>ta env st λd b=>∃a ds,d=.ref a/\rdS b a ds/\k ds.reverse (λst'=>rdS st' a ds) b):=
 PI.imp (ce8 A y (L9 B m) (by rw[n8 m];rfl)) λσ H R q=>by
  obtain⟨env,st,n,D,C,u,x⟩:=q;refine⟨env,st,λds b=>match ds with|[d]=>∃a ds,d=.ref a/\rdS b a ds/\n ds.reverse (λst'=>rdS st' a ds) b|_=>False,D,C,u,λvs ds F st' E o z l h=>?_⟩
  match ds,z with
  |[d],_=>
   obtain⟨v,G,rfl,t,s⟩:=o.inv_cons;rw[s.inv_nil];obtain⟨q,ds,rfl,w,h⟩:=h;obtain⟨vs,i,r⟩:=l.rd w;exact⟨q,vs,by rw[t.ref_inv],i,(r.len▸x _ _ st' F _ E l cu2 h)⟩
end
end
end Ek
namespace PySem
open PyProof.Rows
namespace F
def aw5:Manifest.owners.lookup (String.ofList ['d','e','s','r','e','v','e','r'].reverse)=AA Manifest.sig_reversed:=by kernel_rfl
def ek_slot_rev_next:Slot "reversed" "__next__" "reversed.__next__":=
 .of (owner:="reversed") (n:="__next__") (by kernel_rfl) (by decide+kernel) (by decide+kernel) (by decide+kernel)
  (by first|exact .inl (by decide+kernel)|exact .inr (by decide+kernel)) (by kernel_rfl)
def bm5:Slot "reversed" "__init__" "object.__init__":=
 .of (owner:="object") (n:="__init__") (by kernel_rfl) (by decide+kernel) (by decide+kernel) (by decide+kernel)
  (by first|exact .inl (by decide+kernel)|exact .inr (by decide+kernel)) (by kernel_rfl)
def ek_slot_rev_iter:Slot "reversed" "__iter__" "reversed.__iter__":=
 .of (owner:="reversed") (n:="__iter__") (by kernel_rfl) (by decide+kernel) (by decide+kernel) (by decide+kernel)
  (by first|exact .inl (by decide+kernel)|exact .inr (by decide+kernel)) (by kernel_rfl)
def ek_entry_rev_next:Jg table "reversed.__next__"=AA CT.«reversed.__next__»:=LK rfl
def ek_entry_rev_iter:Jg table "reversed.__iter__"=AA CT.«dict_keyiterator.__iter__»:=
 Ly (id':="dict_keyiterator.__iter__") (rfl) (rfl) (by decide+kernel) (rfl)
def ek_args_rev_next a:KM "reversed.__next__" ⟨[a],[]⟩:=by
 kernel_rfl
def ek_args_rev_iter a:KM "reversed.__iter__" ⟨[a],[]⟩:=by
 kernel_rfl
def ek_called_reversed:TypeCalled "reversed" "reversed.__new__" "object.__init__":=
 ⟨rfl,by decide+kernel,⟨_,_,mro_reversed⟩,made_reversed,by decide+kernel,by kernel_rfl,bm5⟩
def ek_tuple_no_rev:Du (.type "tuple") "__reversed__"=pure AE:=by kernel_rfl
def ek_sub_tuple_dict:isSubtype (.type "tuple") (.type "dict")=pure AG:=rfl
end F
abbrev ag0(l:AI)(i:Int):Obj:={cls:=.type "reversed",data:=.fields #[.ref l,Bt i]}
def bp5 l(items:Array AF)(b:(items.size:Int)<2^63):
  Meets (CT.«reversed.__new__» ⟨[.type "reversed",.ref l],[]⟩) (λ_ R s=>IG s.heap l items/\∀tk,R (.ok (.ret (.ref s.heap.objs.size))) {s with heap:=s.heap.push (ag0 l (items.size-1)),toks:=tk}):=
 .of_wp λprog w A R s h=>by
  obtain⟨d,h⟩:=h;have c:=F.sub_reversed_self;have a:=d.typeIs;wp_walk using Ch a F.ek_tuple_no_rev,FN a F.ek_sub_tuple_dict,Ch a Ej.lookup,len_tuple d b
  exact⟨_,rfl,h _⟩
variable{l:AI}
abbrev G3(h:Au)(a l:AI)(i:Int):Prop:=∃o,h.get? a=AA o/\o.cls=.type "reversed"/\o.data=.fields #[.ref l,Bt i]
section
variable {prog:AZ} {w:At} {A:BG} {E:AF->AJ->Prop} {s:AJ}
def G3.typeIs{a}{i}(x:G3 s.heap a l i):s.TypeIs (.ref a) "reversed":=let⟨o,b,c,_⟩:=x;⟨o,b,c⟩
def G3.stay{h h'}{a}{i}(x:G3 h a l i)(e:∀o,h.get? a=AA o->h'.get? a=AA o):G3 h' a l i:=let⟨o,b,r⟩:=x;⟨o,e _ b,r⟩
def bu7{items}{Q}(b:IG s.heap l items)(a:(items.size:Int)<2^63)
  (h:∀tk,Q (.ref s.heap.objs.size) {s with heap:=s.heap.push (ag0 l (items.size-1)),toks:=tk}):AQ (model prog w) A (call (.type "reversed") [.ref l]) Q E s:=by
 exact callType_new F.ek_called_reversed ∅ (F.typeCall_reversed_1 _) (F.newCall_reversed_1 _) (λobj=>JK obj _) F.entry_reversed_new (bp5 l items a) ⟨b,λtk=>⟨⟨_,Ar _ rfl,rfl⟩,h tk⟩⟩
end
end PySem
namespace PySem
open PyProof.Rows
section
variable {prog:AZ} {w:At} {A:BG} {E:AF->AJ->Prop} {s:AJ}
def ax0{it l}{i}{Q}(a:G3 s.heap it l i)(h:Q (.ref it) s):AQ (model prog w) A (JB (.ref it)) Q E s:=by
 exact wpAny_pyIter_slot a.typeIs F.ek_slot_rev_iter (BL F.ek_slot_rev_iter a.typeIs F.ek_entry_rev_iter (AL ⟨_,rfl,"reversed",_,a.typeIs,F.ek_slot_rev_next.lookup,h⟩) (F.ek_args_rev_iter _))
end
end PySem
namespace L2
open PySem PySem.Spec PyProof.Rows
end L2
namespace Ek
open PySem PySem.Spec PyProof.Rows L2
variable [Tbs]
end Ek
namespace PySem
open PyProof.Rows
section
variable {prog:AZ} {w:At} {A:BG} {E:AF->AJ->Prop} {s:AJ}
def bm4{it l}{i:Nat}{items}{x}{Q}(b:G3 s.heap it l (i:Int))(f:IG s.heap l items)(e:items[i]?=AA x)(g:(items.size:Int)<2^63)
  (k:∀h' tk,G3 h' it l ((i:Int)-1)->BB it s.heap h'->Q (AA x) {s with heap:=h',toks:=tk}):AQ (model prog w) A (Ei (.ref it)) Q E s:=by
 obtain⟨o,d,h,c⟩:=id b;have hi:i<items.size:=(Bi.mp e).1;refine AD (Cr (BN b.typeIs F.ek_slot_rev_next
  (BL F.ek_slot_rev_next b.typeIs F.ek_entry_rev_next ?_ (F.ek_args_rev_next _))))
 refine AD (GU (a:=(Al it,[])) rfl ?_)
 refine AD (Ay d c (x:=.ref l) rfl ?_);refine AD (Ay d c (x:=Bt (i:Int)) rfl ?_);show AQ _ _ (if(i:Int)<0 then _ else _) _ _ s;refine AD (Ch f.typeIs Ej.lookup ?_);refine AD (Hh ?_);refine AD (Cr (getItem_tuple (j:=i) (x:=x) f ⋯ ⋯ ?_ e ?_))
 ·unfold Iu;simp;lia
 refine AD (Ay d c (x:=Bt (i:Int)) rfl ?_);refine AD (CW d c ∎ ?_);refine AL ⟨x,rfl,AL (k _ _ ?_ (Cc ..))⟩;exact⟨_,By _ d (Bw (Bc c _)),(Gf ..).trans h,by
  rw[Bc c];simp⟩
def bm7{e l:AI}{Q:Option AF->AJ->Prop}(g:A.handled=AE)(c:G3 s.heap e l (-1))
  (h:∀h',FU e s.heap h'->Q AE {s with heap:=h'}):AQ (model prog w) A (Ei (.ref e)) Q E s:=by
 obtain⟨o,f,i,d⟩:=id c;unfold Ei;refine AD (Cr (BN (name:=Ab "__next__") c.typeIs F.ek_slot_rev_next
  (BL F.ek_slot_rev_next c.typeIs F.ek_entry_rev_next ?_ (F.ek_args_rev_next _))))
 refine AD (GU (a:=(Al e,[])) rfl ?_)
 try dsimp only
 refine AD (Ay f d (x:=.ref l) rfl ?_);refine AD (Ay f d (x:=Bt (-1)) rfl ?_);show AQ _ _ (if(-1:Int)<0 then _ else _) _ _ s;refine AD (Ef ?_);refine AD (AD (CW f d ∎ ?_));refine CW (By _ f (Bw (Bc d _))) (Bc d _) ∎ ?_;refine AD ?_;refine AD ?_;simp only[Lv,Lw];refine AD (m:=GT _ _) (GU (a:=BX) (by first|rfl|(simp only[GT];rfl)) ?_);refine Ba ?_ (by size_fits);refine AD (wpAny_handled ?_)
 first|rw[show A.in1.handled=AE from g]|rw[g]
 refine AD (AL (wpAny_throw ?_));refine AD (FN (T:="StopIteration") (b:=AC) ⟨_,Ar _ rfl,rfl⟩ Lz ?_);exact AL (h _ ((((Cc ..).extBut.trans (Cc ..).extBut).push _).push _))
end
end PySem
namespace L2
open PySem PySem.Spec PyProof.Rows
abbrev Itw(K:AM)(a:AI)(n:Nat):It:=
 ⟨λi H=>(∃xs,SqT K H a xs/\xs.length=n)/\i<n,λi H x H'=>H'=H/\∀xs,SqT K H a xs->xs[n-1-i]?=AA x,λi H=>(∃xs,SqT K H a xs/\xs.length=n)/\i=n⟩
def bx2{P:AZ}{w:At}{K:AM}{N:AS}(a g:AI)(n:Nat):Turn P w K N (Itw K a n) [g] g (λi h=>G3 h g a ((n:Int)-1-(i:Int))) where
 mem:=by simp
 obj:=λi h st b hb=>by
  obtain⟨o,e,c,d⟩:=st;rw[show b=g by simpa using hb];exact⟨o,e,λv z=>by rw[d]at z;cases z⟩
 keep:=λi h h' st k=>st.stay λo e=>k g ∎ o e
 item:=by
  intro X L F M J i f s B H E I m st q;subst L F M;obtain⟨⟨j,G,T⟩,hi⟩:=q;subst T;obtain⟨p,C,Q,Y⟩:=I.tuple G;obtain⟨x,D⟩:∃x,j[j.length-1-i]?=AA x:=⟨_,AO ⋯⟩;obtain⟨u,R,O⟩:=C.get D;obtain⟨A,y,U,v,t,r⟩:=m g ∎;have l:(p.toArray.size:Int)<2^63:=by
   rw[Ad,<-C.length];have S:sizeLine<2^62:=by decide+kernel
   lia
  rw[show(j.length:Int)-1-(i:Int)=((j.length-1-i:Nat):Int) by lia]at st;refine bm4 st Q (x:=u) (by simpa using R) l λh' tk st' sb=>?_;have W:Inv X f B H {s with heap:=h',toks:=tk}:=I.turned (t':=tk) (λb o hb e=>(sb.2 b hb).trans e) A y v t r;obtain⟨o,V,c,d⟩:=id st';rw[show((j.length-1-i:Nat):Int)-1=(j.length:Int)-1-((i+1:Nat):Int) by lia]at st';exact⟨u,rfl,ab3 (s:={s with heap:=h',toks:=tk}) V c d ∅ ⟨x,H,W,O,⟨rfl,λys hy=>by rw[I.tuple_inj hy G];exact D⟩,st',λb hb=>(m b hb).1⟩⟩
 done:=by
  intro X L F M J i f s B H E I m st q;obtain⟨A,y,U,v,t,r⟩:=m g ∎;rw[show(n:Int)-1-(i:Int)=-1 by have:=q.2;lia]at st;exact bm7 (I.ok.hd J) st λh' eb=>⟨rfl,I.turned (t':=s.toks) (λb o hb e=>eb b o hb e) A y v t r⟩
 self:=λ_ _ _ _ _ st h=>ax0 st h
end L2
namespace Ek
open PySem PySem.Spec PyProof.Rows L2
variable [Tbs]
section
variable {K:AM}
def ch2{q}{ds:List D}{vs:List V}{H1}(a:SqT K H1 q vs)(r:IsDs K H1 ds vs):ItOk K H1 (Itw K q ds.length) ds.reverse (λ_=>True) where
 go:=λi st H tk rs _ hi=>⟨⟨vs,tk.1.1 _ _ a,r.len.symm⟩,by simp_all⟩
 yld:=λi st H x H' tk rs _ hi y=>by
  obtain⟨rfl,y⟩:=y;have b:i<ds.length:=by simp_all
  obtain⟨d,e,c⟩:=r.get' (y vs (tk.1.1 _ _ a));exact⟨d,FI b▸e,c.mono tk,Ev.refl,rs⟩
 stop:=λst H tk rs _=>⟨⟨vs,tk.1.1 _ _ a,r.len.symm⟩,∎⟩
end
section
variable {X:Cx} {a tg:AS} {ta:DT} {pos p:Pos}
def b71(T:Gl X "reversed")(S:X.mg "reversed"=AE)(U:PE X a (up X.K ta))(D:∀e p,a≠.Starred e p):
  PI X tg (.Call (.Name "reversed" p) [a] [] pos) (upI X.K λenv st k=>ta env st λd c=>∃ds,d=.tup ds/\k ds.reverse (λ_=>True) c):=by
 have A:Aj [a] X.env=[(AG,eval a X.env)]:=by rw[n8 D];rfl
 intro j s E H R I q;obtain⟨env,st,C,W,V,O,Q⟩:=q;refine JX (L7 I T S L2.aw1 (BH (thn (L9 U D pos j s E H (λvs g=>∃v ds c,vs=[v]/\Ev st H c g/\IsD X.K g (.tup ds) v/\RelS X.K c g/\C ds.reverse (λ_=>True) c) I
  ⟨env,st,(λds c=>match ds with|[d]=>∃ds,d=.tup ds/\C ds.reverse (λ_=>True) c|_=>False),W,V,O,λvs ds H' st' B z hl y i=>?_⟩) λus s1 hh=>?_) A rfl))
 ·match ds,hl with
  |[d],_=>
   obtain⟨v,Z,rfl,N,M⟩:=z.inv_cons;rw[M.inv_nil];obtain⟨ds,rfl,i⟩:=i;exact⟨v,ds,st',rfl,B,N,y,i⟩
 obtain⟨vs,g,x,J,v,ds,c,Y,B,z,y,i⟩:=hh;subst Y;obtain⟨u,rfl,G⟩:=J.one;obtain⟨l,vs,rfl,n,r⟩:=z.tup_inv;cases G;obtain⟨m,F,L,hz⟩:=x.tuple n;have f:m.toArray.size=vs.length:=by rw[Ad,<-F.length]
 have w:(m.toArray.size:Int)<2^63:=by
  rw[f];have P:sizeLine<2^62:=by decide+kernel
  lia
 refine bu7 L w λtk=>?_;rw[f];have t:G3 (s1.heap.push (ag0 l ((vs.length:Int)-1))) s1.heap.objs.size l ((vs.length:Int)-1-((0:Nat):Int)):=⟨_,Ar _ rfl,rfl,by rw[show(vs.length:Int)-1-((0:Nat):Int)=(vs.length:Int)-1 by lia];rfl⟩;refine ax0 (s:={s1 with heap:=s1.heap.push (ag0 l ((vs.length:Int)-1)),toks:=tk}) t ?_;refine⟨s1.heap.objs.size,[s1.heap.objs.size],_,_,g,rfl,x.kept (t':=tk) λb o e=>AN _ e,bx2 l _ vs.length,t,λb hb=>?_,?_⟩
 ·rw[show b=s1.heap.objs.size by simpa using hb];exact x.fpOk (AX _) (x.hok.fresh (AX _))
 ·rw[<-r.len];exact Q _ _ c g _ B y (ch2 n r) i
end
end Ek
namespace L2
open PySem PySem.Spec PyProof.Rows
section
variable{fl:AF}
structure FlyA(B:Au)(l:List Env)(e:AI)(cls fl:AF)(h:Au):Prop where
 st:B.StaysIn h
 new:B.get? e=AE
 fr:h.FunFrames B l
 ex:∃oe vs T oT ts,h.get? e=AA oe/\oe.cls=cls/\oe.dict=AE/\oe.data=.fields vs/\vs[1]?=AA (.ref T)/\B.get? T=AE/\T≠e/\h.get? T=AA oT/\oT.data=.fields ts/\ts[3]?=AA fl
section
variable {M:Lj} {A:BG} {E:AF->AJ->Prop} {s:AJ} {B:Au} {env:Env} {outer l:List Env} {L e:AI} {cls:AF} {Q:Unit->AJ->Prop}
def b47(o:Obj)f:(o.mapFields f).dict=o.dict:=by
 obtain⟨c,d,a,b⟩:=o;cases a<;>rfl
def a55{j:Obj}{vs:Array AF}{H:AF}{b:Bool}(w:A.frames=AA (env::outer))(J:env.frame=AA L)(K:B.StaysIn s.heap)(l:B.get? e=AE)(n:s.heap.FunFrames B (env::outer))(p:s.heap.get? e=AA j)(i:j.data=.fields vs)(x:j.dict=AE)(hsz:1<vs.size)
  (h:∀h',FlyA B (env::outer) e j.cls (Bt L) h'->s.heap.UpToSlots h'->Q () {s with heap:=h'}) :
  AQ M A (do let a <-frameOf env;let pl <-entryPlaceOf L b;let t <-HY H a .none (Bt L) .none pl;Jh (.ref e) 1 t) Q E s:=by
 have k:e∉(env::outer).filterMap (·.frame):=λhm=>by
  obtain⟨_,o,G,v⟩:=n.mem hm;rw[p]at G;cases G;exact v vs i
 refine AD (wpAny_frameOf_fun w n J λh₁ hs₁=>?_);refine AD (wpAny_entryPlaceOf λpl hpl=>?_);refine AD (Ba ?_ (hpl.sizeOk5 _ _ _ _ _));have f:h₁.get? e=AA j:=(hs₁.2.1 e k).trans p;have c:B.StaysIn h₁:=λb o q=>(hs₁.2.1 b λhm=>by rw[(n.mem hm).1]at q;cases q).trans (K b o q);generalize D:({cls:=.type "traceback",dict:=AE,data:=.fields ([H,.ref L,.none,Bt L,.none]++(if pl.isEmpty then Cq 6 BX else pl)).toArray}:Obj)=oT;have C:∃ts,oT.data=.fields ts/\ts[3]?=AA (Bt L):=⟨_,by rw[<-D],∎⟩;have d:=AN (h:=h₁) oT f;have m:h₁.objs.size≠e:=GO (Aq f);have g:=Bc i (·.setIfInBounds 1 (Al h₁.objs.size));refine CW d i hsz (h _ ?_ λb o hb hn=>?_)
 ·obtain⟨ts,F,I⟩:=C;have y:oT.isFreed=AG:=Bw F;refine⟨λb o q=>?_,l,n.of_keeps λb o q hn=>?_,_,_,h₁.objs.size,oT,ts,By _ d (Bw g),Gf _ _,(b47 _ _).trans x,g,by simp[hsz],c.fresh,m,?_,F,I⟩
  ·rw[CH _ _ (λz:e=b=>by rw[<-z,l]at q;cases q)];exact AN _ (c b o q)
  ·obtain⟨r,z⟩:=hs₁.2.2 b o q;refine⟨{o with slots:=r},?_,rfl⟩;rw[CH _ _ (λz:e=b=>by rw[<-z,p]at q;cases q;exact hn vs i)];exact AN _ z
  ·rw[CH _ _ (Ao m)];exact Ar h₁ y
 ·obtain⟨r,z⟩:=hs₁.2.2 b o hb;refine⟨r,?_⟩;rw[CH _ _ (λz:e=b=>by rw[<-z,p]at hb;cases hb;exact hn vs i)];exact AN _ z
def FlyA.mark{h}{x}(f:FlyA B l e cls fl h):∃T i ts d vs,h.get? e=AA d/\d.data=.fields vs/\vs[1]?=AA (.ref T)/\h.get? T=AA i/\i.data=.fields ts/\ts[3]?=AA fl/\FlyA B l e cls x (h.update T (Hl (·.setIfInBounds 3 x)))/\h.UpToSlots (h.update T (Hl (·.setIfInBounds 3 x))):=by
 obtain⟨d,vs,T,i,ts,n,u,k,p,t,j,g,r,c,s⟩:=f.ex;have hsz:=(Bi.mp s).1;have a:∀b,b≠T->(h.update T (Hl (·.setIfInBounds 3 x))).get? b=h.get? b:=λb hb=>CH _ _ (Ao hb);have m:∀b o,h.get? b=AA o->(∀vs,o.data≠.fields vs)->b≠T:=λb o hb hn q=>by
  simp_all
 refine⟨T,i,ts,d,vs,n,p,t,r,c,s,⟨λb o q=>(a b λz=>by simp_all).trans (f.st b o q),f.new,f.fr.of_keeps λb o q hn=>⟨o,(a b (m b o q hn)).trans q,rfl⟩,d,vs,T,_,_,(a e (Ao g)).trans n,u,k,p,t,j,g,By _ r (Bw (Bc c _)),Bc c _,by simp[hsz]⟩,λb o q hn=>⟨o.slots,(a b (m b o q hn)).trans q⟩⟩
def ae3(f:FlyA B l e cls fl s.heap)(h:∀h',FlyA B l e cls .none h'->s.heap.UpToSlots h'->Q () {s with heap:=h'}):AQ M A (LL (.ref e) AE) Q E s:=by
 obtain⟨T,m,ts,k,vs,b,c,i,d,a,g,j,u⟩:=f.mark;exact AD (Ay b c i (CW d a (Bi.mp g).1 (h _ j u)))
def a78(d:A.frames=AA (env::outer))(l:env.frame=AA L)(f:FlyA B (env::outer) e cls .none s.heap)(h:∀h',FlyA B (env::outer) e cls (Bt L) h'->s.heap.UpToSlots h'->Q () {s with heap:=h'}):AQ M A (GZ (.ref e) env) Q E s:=by
 obtain⟨T,y,ts,x,vs,t,v,w,m,b,n,c,u⟩:=f.mark;unfold GZ;simp only[l];refine AD (Ay t v w ?_);refine AD (Ay m b n ?_);refine AD (CW m b (Bi.mp n).1 ?_);obtain⟨q,o,z,r,p,g,j,a,i,k,_⟩:=c.ex;refine a55 d l c.st c.new c.fr g i a (Bi.mp k).1 λh' k1 k2=>h h' (j▸k1) (u.trans k2)
def bt5{oe}{vs}(b:A.frames=AA (env::outer))(f:env.frame=AA L)(l:B.StaysIn s.heap)(c:B.get? e=AE)(j:s.heap.FunFrames B (env::outer))(g:s.heap.get? e=AA oe)(k:oe.cls=cls)(a:oe.data=.fields vs)(d:oe.dict=AE)(i:vs[1]?=AA .none)
  (h:∀h',FlyA B (env::outer) e cls (Bt L) h'->s.heap.UpToSlots h'->Q () {s with heap:=h'}):AQ M A (GZ (.ref e) env) Q E s:=by
 subst k;unfold GZ;simp only[f];refine AD (Ay g a i ?_);exact a55 b f l c j g a d (Bi.mp i).1 h
def FlyA.tail{h}(f:FlyA B (env::outer) e cls fl h):FlyA B outer e cls fl h:=let⟨_,_,k⟩:=f.fr;⟨f.st,f.new,k,f.ex⟩
end
end
section
variable{H:Hp}{h:Au}{outer:List Env}{b:AI}{o:Obj}
@[reducible]noncomputable def H0:Hp:=λ_=>AE
abbrev Bs(H:Hp)(h:Au)(outer:List Env):Au:=J2 h λb=>if b∈frs outer then AA (.own 0)else H b
def bf6(e:h.get? b=AA o)(n:H b=AE)(f:b∉frs outer):(Bs H h outer).get? b=AA o:=a74 e (by simp_all)
def bj5(e:(Bs H h outer).get? b=AA o):h.get? b=AA o/\H b=AE/\b∉frs outer:=by
 obtain⟨c,a⟩:=bd8 e
 by_cases f:b∈frs outer
 ·simp_all
 ·rw[if_neg f]at a;exact⟨c,a,f⟩
def b96(e:b∈frs outer\/h.get? b=AE):(Bs H h outer).get? b=AE:=by
 cases q:(Bs H h outer).get? b with
 |none=>rfl
 |some o=>
  obtain⟨c,_,a⟩:=bj5 q
  ·grind
theorem az5{B B'}:∀{l},h.FunFrames B l->(∀b∈frs l,B'.get? b=AE)->h.FunFrames B' l
 |[],_,_=>trivial
 |env::l,⟨e,⟨L,o,a,_,d,f⟩,c⟩,k=>⟨e,⟨L,o,a,k L (by unfold frs;rw[CV,a];exact Bo),d,f⟩,az5 c λb hb=>k b (by
   unfold frs at hb ⊢;rw[CV,a];exact Am _ hb)⟩
structure CXo(P:AZ)(w:At)(K:AM)(nm:Str)(Wi:Hp->Prop)(outer:List Env)(H:Hp)(s:AJ)(e:AF)(s':AJ)(a C:AI)(H':Hp)(B:Au):Prop where
 ref:e=.ref a
 ns:Ae K AK nm=AA (AA (.ref C))
 fly:FlyA B outer a (.ref C) .none s'.heap
 cov:∀b o,s.heap.get? b=AA o->b∉frs outer->∃o',B.get? b=AA o'
 hok:HOk P w H' B
 un:Un (frs outer) [] H H' s.heap s'.heap
 os:s'.os=s.os
 bare:ES s'.gens
 wish:Wi H'
abbrev CXe(P:AZ)(w:At)(K:AM)(nm:Str)(Wi:Hp->Prop):CXT:=λouter H s _ e s'=>∃a C H' B,CXo P w K nm Wi outer H s e s' a C H' B
abbrev CXb(P:AZ)(w:At)(K:AM)(nm:Str)(Wi:Hp->Prop)(b:Bool):CXT:=λouter H s E e s'=>b=AC/\CXe P w K nm Wi outer H s E e s'
structure FrX(X:Cx)(nm:Str)(Wi:Hp->Prop)(b:Bool):Prop where
 stk:X.stack=X.env::X.outer
 fr:X.env.frame=AA X.env.locals
 ex:X.ex=[]
 xe:X.xe=λe s'=>AQ (model X.prog X.w) X.A (leaving X.env e) (λ_ s''=>CXb X.prog X.w X.K nm Wi b X.outer X.H₀ X.s₀ E0 e s'') (λe' s''=>CXb X.prog X.w X.K nm Wi b X.outer X.H₀ X.s₀ E0 e' s'') s'
section
variable {X:Cx} {nm:Str} {Wi:Hp->Prop} {b:Bool} {pins:List (AI×Obj)} {σ:St} {H':Hp} {s s':AJ} {B:Au} {a C:AI} {e fl:AF}
def Inv.trk(I:Inv X pins σ H s){b}{o}(e:H b=AA o):b∉frs X.stack:=λz=>by rw[I.stkFree b z]at e;cases e
def CXo.inv(c:CXo X.prog X.w X.K nm Wi X.stack H s e s' a C H' B)(I:Inv X pins σ H s):=
 I.call' c.os c.un (c.hok.kept c.fly.st) c.bare λb z=>absurd z AW
def FrX.pass(F:FrX X nm Wi b):=F.xe▸PassesOwn.leaving
def FrX.noex(F:FrX X nm Wi b)a:a∉X.ex:=F.ex▸AW
def FrX.old(F:FrX X nm Wi b)(I:Inv X pins σ H s){c}(q:X.s₀.heap.get? c=AA o)(z:c∉frs X.outer):∃a,s.heap.get? c=AA a/\c∉frs X.stack:=by
 obtain⟨a,d⟩:=I.base.there c o q (F.noex c);refine⟨a,d,λy=>?_⟩
 rcases AR.mp (I.stkSub c y)with y|y
 ·exact absurd (Ah (Aq q) I.ok.above) (by simp_all)
 ·exact z y
def FrX.out(F:FrX X nm Wi b)(I:Inv X pins σ H' s)(ns:Ae X.K AK nm=AA (AA (.ref C)))(f:FlyA B (X.env::X.outer) a (.ref C) .none s'.heap)(u:∀b∈frs X.outer,∀o,(∀vs,o.data≠.fields vs)->s.heap.get? b=AA o->∃c,s'.heap.get? b=AA {o with slots:=c})
  (st:B.StaysIn s.heap) (cv:∀b o,X.s₀.heap.get? b=AA o->b∉frs X.outer->∃e,B.get? b=AA e) (j:HOk X.prog X.w H' B) (p:s'.os=s.os) (m:ES s'.gens) (k:Wi H'):CXe X.prog X.w X.K nm Wi X.outer X.H₀ X.s₀ E0 (.ref a) s':=by
 have c:∀b o,X.s₀.heap.get? b=AA o->b∈frs X.outer->∃c,s'.heap.get? b=AA {o with slots:=c}:=λb o q z=>by
  obtain⟨c,d⟩:=I.base.slot b o q (I.ok.frf b z) z (F.noex b);obtain⟨_,e,g,l⟩:=I.ok.funs.mem z;rw[q]at g;cases g;obtain⟨i,h⟩:=u b z {o with slots:=c} l d;exact⟨i,h⟩
 refine⟨a,C,H',B,rfl,ns,f.tail,cv,j,⟨λb o q n z _=>?_,λb o q n z _=>c b o q z,λb o q n _=>I.base.free b o q n (F.noex b),λb o q _=>?_,I.base.tups,I.base.frzs,I.base.tbls⟩,p.trans I.os,m,k⟩
 ·obtain⟨e,d⟩:=cv b o q z;have h:=st b e d;rw[I.base.keep b o q n z (F.noex b)]at h;cases h;exact f.st b o d
 ·by_cases z:b∈frs X.outer
  ·obtain⟨r,d⟩:=c b o q z;exact⟨_,d⟩
  ·obtain⟨e,d⟩:=cv b o q z;exact⟨e,f.st b e d⟩
def FrX.passes(F:FrX X nm Wi b):B2 (CXb X.prog X.w X.K nm Wi b) X E0:=λpins σ H s e s' I c=>by
 obtain⟨j,a,C,D,B,c⟩:=c;have x:=c.inv I;obtain⟨rfl,ns,f,i,h,y,A,v,r⟩:=c;have k:=f;have d:=I.ok.frames;rw[F.stk]at k d;rw[F.xe];refine AD (a78 d F.fr k λh1 f2 u1=>ae3 f2 λh2 f3 u2=>⟨j,F.out x ns f3 (λb j o hn e=>?_) f.st (λb o q z=>?_) h rfl v r⟩)
 ·obtain⟨m,u⟩:=u1 b _ e hn;obtain⟨g,t⟩:=u2 b _ u hn;exact⟨g,t⟩
 ·obtain⟨p,n,l⟩:=F.old I q z;exact i b p n l
def Inv.hokB(I:Inv X pins σ H s):HOk X.prog X.w H (Bs H0 s.heap X.stack):=λb o e=>by
 refine(I.hok b o e).stay (λc v a q=>bf6 q rfl ?_) (λ_ q=>q) λ_ _ q=>q
 rcases a with rfl|a
 ·exact I.trk e
 ·exact I.trk a
def FrX.raised(F:FrX X nm Wi AC)(I:Inv X pins σ H s){h'}{vs}(d:Ae X.K AK nm=AA (AA (.ref C)))(m:HP s.heap h' a (.ref C) vs)(n:Wi H):X.xe (.ref a) {s with heap:=h'}:=by
 obtain⟨t,r,p,y⟩:=m.there;have c:=I.ok.frames;rw[F.stk]at c;have st:(Bs H0 s.heap X.stack).StaysIn s.heap:=λb o q=>(bj5 q).1;have x:=λb o q=>m.keeps b o (st b o q);have g:=W.fresh_of_stays st m.new;have u:s.heap.FunFrames (Bs H0 s.heap X.stack) (X.env::X.outer):=by
  have h:=I.stack;rw[F.stk]at h;exact az5 h λb hb=>b96 (.inl (by rw[F.stk];exact hb))
 rw[F.xe];refine AD (bt5 c F.fr x g (u.of_keeps λb o q _=>⟨o,m.keeps b o q,rfl⟩) r rfl rfl rfl rfl λh1 f2 u1=>ae3 f2 λh2 f3 u2=>⟨rfl,F.out I d f3 (λb hb o d e=>?_) st (λb o q z=>?_) I.hokB rfl I.bare n⟩)
 ·obtain⟨j,w⟩:=u1 b _ (m.keeps b o e) d;obtain⟨f,v⟩:=u2 b _ w d;exact⟨f,v⟩
 ·obtain⟨l,k,i⟩:=F.old I q z;exact⟨l,bf6 k rfl i⟩
end
end
section
variable{H:Hp}
section
variable {P:AZ} {w:At} {h:Au} {a:AI} {o:HO}
def l8.ex(x:l8 P w H h a o):∃u,h.get? a=AA u:=by
 cases o with
 |lst c=>obtain⟨_,_,_,_,e⟩:=x;exact⟨_,e⟩
 |tup c=>obtain⟨_,_,_,_,e,_⟩:=x;exact⟨_,e⟩
 |dK b=>obtain⟨_,_,_,_,o,_,_,e,_⟩:=x;exact⟨_,e⟩
 |dT b=>obtain⟨_,_,_,_,o,_,_,e,_⟩:=x;exact⟨_,e⟩
 |set S n=>obtain⟨o,_,_,_,e,_⟩:=x;exact⟨_,e⟩
 |ins C dx q=>obtain⟨_,_,_,e,_⟩:=x;exact⟨_,e⟩
 |own y=>exact x
 |xd q=>obtain⟨_,⟨_,_,_,e,_⟩,_⟩:=x;exact⟨_,e⟩
 |rng lo hi=>obtain⟨_,_,_,e⟩:=x;exact⟨_,e⟩
 |frz ob u=>exact⟨_,x.1⟩
 |tbl ps=>exact⟨_,(x)⟩
 |met f y=>exact⟨_,(x)⟩
 |ext s=>exact x.2.1
end
@[reducible]noncomputable def M5(a C:AI):HO:=.ext λh=>∃o,h.get? a=AA o/\o.cls=.ref C/\o.dict=AE/\∃vs,o.data=.fields vs
abbrev im:HO->Option HO
 |.tup xs=>AA (.tup xs)
 |.tbl ps=>AA (.tbl ps)
 |.frz o (.tup xs)=>AA (.frz o (.tup xs))
 |.frz o (.lst xs)=>AA (.frz o (.lst xs))
 |.frz o _=>AA (.frz o (.own 0))
 |_=>AE
abbrev y4(H:Hp):Hp:=λb=>(H b).bind im
abbrev mrg(H H':Hp):Hp:=λb=>match H b with|some (.tbl _)=>H' b|some o=>AA o|none=>H' b
def Z0 o(u):∃a,im (.frz o u)=AA (.frz o a)/\((∀vs,u≠.lst vs)->∀vs,a≠.lst vs):=by
 cases u<;>exact⟨_,rfl,λh=>by simp_all⟩
section
variable {H':Hp} {b:AI} {o:HO}
def R7(h:H b=AE):y4 H b=AE:=by unfold y4;rw[h];rfl
def B7(h:H b=AA o):y4 H b=im o:=by unfold y4;rw[h];rfl
def W8(h:H b=AE):mrg H H' b=H' b:=by unfold mrg;rw[h]
def T8{ps}(h:H b=AA (.tbl ps)):mrg H H' b=H' b:=by unfold mrg;rw[h]
def t4(h:H b=AA o)(n:∀a,o≠.tbl a):mrg H H' b=AA o:=by
 unfold mrg;rw[h];cases o with
 |tbl a=>simp_all
 |_=>rfl
def Y3 o:im o=AE\/(∃a,o=.tup a)\/(∃b,o=.tbl b)\/∃ob u,o=.frz ob u:=by
 cases o with
 |tup a=>exact .inr (.inl ⟨a,rfl⟩)
 |tbl b=>exact .inr (.inr (.inl ⟨b,rfl⟩))
 |frz ob u=>exact .inr (.inr (.inr ⟨ob,u,rfl⟩))
 |_=>exact .inl rfl
def cf4{P}{w}{h}(x:HOk P w H h):HOk P w (y4 H) h:=λa o e=>by
 cases q:H a with
 |none=>rw[R7 q]at e;cases e
 |some d=>
  have z:=x a d q;rw[B7 q]at e;cases d with
  |tup c=>cases e;exact z
  |tbl j=>cases e;exact z
  |frz ob u=>
   cases u with
   |tup c=>cases e;exact z
   |lst c=>cases e;exact z
   |_=>cases e;exact⟨z.1,_,z.1⟩
  |_=>cases e
end
section
variable {X:Cx} {pins:List (AI×Obj)} {σ:St} {H':Hp} {s s':AJ}
def Inv.framed(I:Inv X pins σ H s)(E:s'.os=s.os)(G:ES s'.gens)(f:Un (frs X.stack) [] (y4 H) H' s.heap s'.heap)(j:HOk X.prog X.w H' s'.heap):Inv X pins σ (mrg H H') s':=by
 have m:∀b:AI,b∉([]:List AI):=λb=>AW;have r:∀b o,H b=AA o->im o=AE->H' b=AE:=λb o e z=>by
  obtain⟨u,F⟩:=(I.hok b o e).ex;exact f.free b u F ((B7 e).trans z) (m b)
 have D:∀b ob u,H b=AA (.frz ob u)->∃h,H' b=AA (.frz ob h):=λb ob u e=>by
  obtain⟨h,l,_⟩:=Z0 ob u;exact⟨h,f.frzs b ob h ((B7 e).trans l)⟩
 have A:∀b a,H b=AA (.tup a)->H' b=AA (.tup a):=λb a e=>f.tups b a ((B7 e).trans rfl);have t:∀c o,H' c=AA o->(∀ob u,o≠.frz ob u)->mrg H H' c=AA o:=λc o e nf=>by
  cases q:H c with
  |none=>rw[W8 q];exact e
  |some z=>
   rcases Y3 z with i|⟨a,rfl⟩|⟨p,rfl⟩|⟨ob,u,rfl⟩
   ·rw[r c z q i]at e;cases e
   ·rw[A c a q]at e;cases e;exact t4 q λ_=>nofun
   ·rw[T8 q];exact e
   ·obtain⟨h,l⟩:=D c ob u q;rw[l]at e;cases e;exact absurd rfl (nf ob h)
 have d:∀b o,H' b=AA o->l8 X.prog X.w (mrg H H') s'.heap b o:=λb o e=>(j b o e).stay (λc v _ q=>q) (λc q=>t c _ q λ_ _=>nofun) λc a q=>t c _ q λ_ _=>nofun;have B:∀b o,H b=AA o->(∀c v,(c=b\/H c=AA (.own b))->s.heap.get? c=AA v->s'.heap.get? c=AA v)->∀u,l8 X.prog X.w H s.heap b u->l8 X.prog X.w (mrg H H') s'.heap b u:=λb o e k u x=>
  x.stay k (λc q=>t4 q λ_=>nofun) λc a q=>t4 q λ_=>nofun
 have ow:∀b c v,H c=AA (.own b)->s.heap.get? c=AA v->s'.heap.get? c=AA v:=λb c v g q=>f.keep c v q ((B7 g).trans rfl) (I.trk g) (m c);refine I.call' (ch:=[]) E ⟨λb o e n z1 z2=>f.keep b o e (R7 n) z1 z2,λb o e n z1 z2=>f.slot b o e (R7 n) z1 z2,λb o e n z=>by rw[W8 n];exact f.free b o e (R7 n) z,f.there,λb a e=>t4 e λ_=>nofun,λb o u e=>t4 e λ_=>nofun,λb p e=>?_⟩ (λb o e=>?_) G λb z=>absurd z (m b)
 ·rw[T8 e];exact f.tbls b p ((B7 e).trans rfl)
 ·cases q:H b with
  |none=>rw[W8 q]at e;exact d b o e
  |some z=>
   rcases Y3 z with i|⟨a,rfl⟩|⟨p,rfl⟩|⟨ob,u,rfl⟩
   ·rw[t4 q (λps z=>by rw[z]at i;cases i)]at e;cases e;refine B b o q (λc v g y=>?_) o (I.hok b o q)
    rcases g with rfl|g
    ·exact f.keep c v y ((B7 q).trans i) (I.trk q) (m c)
    ·exact ow b c v g y
   ·rw[t4 q λ_=>nofun]at e;cases e;exact d b _ (A b a q)
   ·rw[T8 q]at e;exact d b o e
   ·rw[t4 q λ_=>nofun]at e;cases e;obtain⟨h,l⟩:=D b ob u q;have C:=(j b _ l).1;have x:=I.hok b _ q;refine⟨C,B b _ q (λc v g y=>?_) u x.2⟩
    rcases g with rfl|g
    ·rw[x.1]at y;cases y;exact C
    ·exact ow b c v g y
end
end
section
variable {X:Cx} {nm:Str} {Wi:Hp->Prop} {pins:List (AI×Obj)} {σ:St} {H H':Hp} {s s':AJ} {B:Au} {a C:AI} {e fl:AF}
def Inv.env0r(I:Inv X pins σ H s):Env0 X.prog X.w X.K X.mg X.base X.A X.stack s (y4 H):=
 let a:=I.env0
 ⟨a.frames,a.mod,λb o q=>⟨(a.bs b o q).1,R7 (a.bs b o q).2⟩,a.bsz,a.funs,λb hb=>R7 (a.frf b hb),cf4 I.hok,a.bare⟩
def bq2{CX}{k}{f}{fd}{ps}{sp}{Q Q0}{us}{vs}{EE}(F:FnOk X.prog X.w X.K X.mg X.base CX k f fd ps sp)(t:Room k X.A)(x:o8 X.K fd ps [])
  (I:Inv X pins σ H s) (r:g9 vs us) (h:sp vs (y4 H) Q0 E0) (p:∀e s',CX X.stack (y4 H) s E0 e s'->EE e s') (d:∀v a(s':AJ),Un (frs X.stack) [] (y4 H) a s.heap s'.heap->Q0 v a->Q v (mrg H a)):AQ (model X.prog X.w) X.A (call (.ref f) us) (EP X pins σ Q) EE s:=by
 have C:us.length=ps.length:=(r.length▸F.len _ _ _ _ h)
 have b:=x s us I.kIn (by rwa[BM]);rw[BM]at b;refine DZ (De (F.run X.A X.stack s (y4 H) ⟨us,[]⟩ us vs Q0 E0 t I.env0r b r h) λr s' hz=>?_);cases r with
 |error e=>exact p e s' hz
 |ok y=>
  cases y with
  |next=>exact AU hz
  |brk=>exact AU hz
  |cont=>exact AU hz
  |ret u=>
   obtain⟨v,a,o,c,j,g,m,q⟩:=hz;exact⟨v,mrg H a,I.framed o c j g,m,d v a s' j q⟩
def Inv.caught(I:Inv X pins σ H s)(c:CXo X.prog X.w X.K nm Wi X.stack (y4 H) s e s' a C H' B){i:Au}(f:FlyA B X.stack a (.ref C) fl i)(u:s'.heap.UpToSlots i):H a=AE/\H' a=AE/\Inv X pins σ (mrg H (upd H' a (M5 a C))) {s' with heap:=i}:=by
 obtain⟨F,vs,_,_,_,A,P,D,J,_⟩:=f.ex;have d:s.heap.get? a=AE:=by
  cases q:s.heap.get? a with
  |none=>rfl
  |some o=>
   by_cases z:a∈frs X.stack
   ·obtain⟨_,h,G,t⟩:=f.fr.mem z;rw[A]at G;cases G;exact absurd J (t vs)
   ·obtain⟨h,E⟩:=c.cov a o q z;rw[f.new]at E;cases E
 have t:H a=AE:=by
  cases q:H a with
  |none=>rfl
  |some o=>obtain⟨u,e⟩:=(I.hok a o q).ex;rw[d]at e;cases e
 have p:H' a=AE:=by
  cases q:H' a with
  |none=>rfl
  |some o=>obtain⟨u,e⟩:=(c.hok a o q).ex;rw[f.new]at e;cases e
 have O:∀b o,s.heap.get? b=AA o->b≠a:=λb o e z=>by rw[z,d]at e;cases e
 have j:∀{b:AI}{o:HO},H' b=AA o->upd H' a (M5 a C) b=AA o:=λ{b o}e=>by rw[f9 (o7 e p)];exact e
 have x:∀b o,s.heap.get? b=AA o->b∈frs X.stack->∃x,i.get? b=AA {o with slots:=x}:=λb o q z=>by
  obtain⟨N,g⟩:=c.un.slot b o q (R7 (I.stkFree b z)) z AW;obtain⟨_,h,m,t⟩:=I.stack.mem z;rw[q]at m;cases m;obtain⟨M,y⟩:=u b _ g t;exact⟨M,y⟩
 refine⟨t,p,I.framed (s':={s' with heap:=i}) c.os c.bare ⟨λb o q n z z2=>?_,λb o q n z _=>x b o q z,λb o q n z=>by rw[f9 (O b o q)];exact c.un.free b o q n z,λb o q _=>?_,λb xs q=>j (c.un.tups b xs q),λb o u q=>j (c.un.frzs b o u q),λb ps q=>?_⟩ λb o q=>?_⟩
 ·obtain⟨h,g⟩:=c.cov b o q z;have y:=c.fly.st b h g;rw[c.un.keep b o q n z z2]at y;cases y;exact f.st b o g
 ·by_cases z:b∈frs X.stack
  ·obtain⟨N,g⟩:=x b o q z;exact⟨_,g⟩
  ·obtain⟨h,g⟩:=c.cov b o q z;exact⟨h,f.st b h g⟩
 ·obtain⟨l,g⟩:=c.un.tbls b ps q;exact⟨l,j g⟩
 ·by_cases L:b=a
  ·subst L;rw[o0]at q;cases q;exact⟨⟨F,A,P,D,vs,J⟩,⟨F,A⟩,λh1 i⟨o,e,r⟩k=>⟨o,k o e,r⟩⟩
  ·rw[f9 L]at q;exact(c.hok b o q).stay (λc v _ q=>f.st c v q) (λc q=>j q) λc xs q=>j q
def Inv.goes(I:Inv X pins σ H s)(O:X.N.Nodup){i:Nat}{x:Str}(hi:X.N[i]?=AA x)(P:X.env.scope.names.lookup x=AA .local){h':Au}{m:Str->Option AF}{v:Option AF}(M:∀(j:Nat)(y:Str)(v:V),X.N[j]?=AA y->σ[j]?=AA (AA v)->Vis X.env.scope y->∃u,i7 v u/\bl8 X.env s.heap m y u)
  (L:h'.Ns X.env.locals λy=>if y=x then v else m y) (K:BB X.env.locals s.heap h') {t:Nat}:Inv X pins (σ.set i AE) H {s with heap:=h',toks:=t}:=by
 have a:∀b,b≠X.env.locals->h'.get? b=s.heap.get? b:=λb z=>K.2 b z;have g:∀b o,X.s₀.heap.get? b=AA o->b≠X.env.locals:=λb o e=>BI (Ah (Aq e) I.ok.above);have f:∀y c u,X.env.cells.lookup y=AA c->s.heap.IsCell c u->h'.IsCell c u:=λy c u e⟨o,ho,hd⟩=>⟨o,(a c (I.cne y c e)).trans ho,hd⟩;refine⟨I.ok,I.os,I.bare,⟨λb o e n hb hx=>?_,λb o e n hb hx=>?_,I.base.free,λb o e hx=>?_,I.base.tups,I.base.frzs,I.base.tbls⟩,⟨_,L,λj y v' k e2 e3=>?_⟩,λy c e=>?_,I.free,I.freeC,λp hp=>?_,λb ob e=>?_,by simpa using I.len⟩
 ·exact(a b (g b o e)).trans (I.base.keep b o e n hb hx)
 ·obtain⟨D,k⟩:=I.base.slot b o e n hb hx;exact⟨D,(a b (g b o e)).trans k⟩
 ·obtain⟨E,k⟩:=I.base.there b o e hx;exact⟨E,(a b (g b o e)).trans k⟩
 ·have C:j≠i:=λz=>by
   subst z;rw[Fb]at e2;simp only[if_true]at e2
   split at e2<;>cases e2
  rw[Br (Ao C)]at e2;have J:y≠x:=λz=>C (an9 O (z▸k) hi);obtain⟨u,r,l⟩:=M j y v' k e2 e3;refine⟨u,r,?_⟩
  rcases l with⟨A,w⟩|⟨A,c,w,G⟩
  ·exact .inl ⟨A,(if_neg J).trans w⟩
  ·exact .inr ⟨A,c,w,f y c _ w G⟩
 ·obtain⟨u,z⟩:=I.cell y c e;exact⟨u,f y c u e z⟩
 ·obtain⟨e,n,B,F,d⟩:=I.pin p hp;exact⟨(a p.1 B).trans e,n,B,F,d⟩
 ·refine(I.hok b ob e).stay (λc u h q=>(a c λz=>?_).trans q) (λ_ q=>q) λ_ _ q=>q;rw[z]at h
  rcases h with h|h
  ·rw[<-h,I.free]at e;cases e
  ·rw[I.free]at h;cases h
@[reducible]noncomputable def Cx.hdl(X:Cx)(a:AI):Cx:={X with A:=X.A.mark (AA (.ref a)),calm:=AG,xe:=λ_ _=>False}
theorem Inv.hdl(I:Inv X pins σ H s)a:Inv (X.hdl a) pins σ H s:=⟨⟨I.ok.mod,I.ok.kind,I.ok.glob,I.ok.blt,I.ok.above,I.ok.inj,I.ok.has,I.ok.cab,nofun,I.ok.frames,I.ok.stk,I.ok.exf,I.ok.bs,I.ok.bsz,I.ok.noex,I.ok.exfs,I.ok.funs,I.ok.frf⟩,I.os,I.bare,I.base,I.loc,I.cell,I.free,I.freeC,I.pin,I.hok,I.len⟩
def Inv.unhdl{a}(o:X.Ok)(I:Inv (X.hdl a) pins σ H s):Inv X pins σ H s:=⟨o,I.os,I.bare,I.base,I.loc,I.cell,I.free,I.freeC,I.pin,I.hok,I.len⟩
def b14{k:Str}(f:X.stack=X.env::X.outer)(fr:X.env.frame=AA X.env.locals)(J:X.N.Nodup){l n:Nat}{d h:Str}{U:AI}{p1 p2 O M Z:Pos}{D:Ends}(b:X.N[l]?=AA d)(le:X.env.scope.names.lookup d=AA .local)(y:(d==("__debug__":Str))=AG)(F:(d==("__classdict__":Str))=AG)(r:X.N[n]?=AA h)(lc:Loc X.env.scope h)(hf:X.fn h=AC\/X.env.scope.names.lookup h=AA .local)
  (t:Gl X k) (q:X.mg k=AA (.ref U)) (E:(k==("__debug__":Str))=AG) (o:Ae X.K AK nm=AA (AA (.ref C))) (x:JM X.K (.ref C) (.ref U)=AA AC)
  (I:Inv X pins σ H s) (c:CXe X.prog X.w X.K nm Wi X.stack (y4 H) s E0 e s') (hq:∀a g,H a=AE->g a=AE->Un (frs X.stack) [] (y4 H) g s.heap s'.heap->Wi g->D.nx (((σ.set l (AA (.ref a))).set n (AA (.ref a))).set l AE) (mrg H (upd g a (M5 a C)))) :
  AQ (model X.prog X.w) X.A (GZ e X.env) (λ_ s₂=>AQ (model X.prog X.w) X.A (LL e AE) (λ_ s₃=>
   AQ (model X.prog X.w) X.A (handleBy e X.env [.ExceptHandler (AA (.Name k p1)) (AA d) [.Assign [.Name h p2] (.Name d O) M] Z]) (SP X pins D) X.xe s₃) X.xe s₂) X.xe s':=by
 obtain⟨a,C',g,B,c⟩:=c;obtain rfl:=c.ref;have P:=c.ns;rw[o]at P;cases P;have j:=I.ok.frames;rw[f]at j;have f1:FlyA B (X.env::X.outer) a (.ref C) .none s'.heap:=f▸c.fly;refine a78 j fr f1 λh1 f2 u1=>ae3 f2 λh2 f3 u2=>?_;have i:=u1.trans u2;rw[<-f]at f3;obtain⟨ha,G,S⟩:=I.caught c f3 i;have L:=S.hdl a;refine wpAny_handleBy_cons (codeAny_handlers_test (E5 L t q ?_ E)) nofun;obtain⟨oe,vs,T,oT,ts,he,hc,_⟩:=f3.ex;have LT:W.Looks (model X.prog X.w) h2 (KJ (.ref a)) (.ref C):=hc▸(W.Looks.ld he).andThen .now;refine JY (W.exm_one S.kIn LT x) ?_;refine codeAny_handlers_suite_as ?_;refine ae3 f3 λh3 f4 u3=>?_;obtain⟨_,_,I3⟩:=I.caught c f4 (i.trans u3);refine V4 I3 J b (.inl le) (v:=.ref a) rfl (λs4 I4=>?_) (.inr le);have Y:PSs (X.hdl a) [.Assign [.Name h p2] (.Name d O) M] _:=a98 (bi2 J r lc (M0 b (.inl le) y F) rfl hf);refine BJ (Y pins s4 _ _ {nx:=λσ' H1=>σ'=(σ.set l (AA (.ref a))).set n (AA (.ref a))/\H1=mrg H (upd g a (M5 a C)),rt:=λ_ _=>False,bk:=λ_ _=>False,ct:=λ_ _=>False} (I4.hdl a) ⟨_,Dc (by rw[I.len];exact(AT.mp b).1),rfl,rfl⟩) (λfl s5 h5=>?_) λ_ _ z=>z.elim;cases fl with
 |brk=>obtain⟨_,_,_,z⟩:=h5;exact z.elim
 |cont=>obtain⟨_,_,_,z⟩:=h5;exact z.elim
 |ret u=>obtain⟨_,_,_,_,_,z⟩:=h5;exact z.elim
 |next=>
  obtain⟨_,_,R,rfl,rfl⟩:=h5;obtain⟨m,p,hm⟩:=id R.loc;exact wpAny_nameGoes_keeps le p (by rw[I.ok.kind];rfl) λh' v hn' hs'=>⟨_,_,(R.goes (X:=X.hdl a) J b le hm hn' hs').unhdl I.ok,hq a g ha G c.un c.wish⟩
abbrev vB:List AF:=[.type "ValueError",.type "Exception",.type "BaseException",.type "object"]
def bb1{K:AM}{h:Au}{C:AI}{a:String}{e:List AF}(X:K.In h)(q:GC K C e a=AC):
  ∃f N nm g bs hdct sn sub ab col dd k0 k1 k2 k3 k5 j,h.get? C=AA (EJ nm g C N bs f hdct sn sub ab col dd k0 k1 k2 k3 k5 a)/\h.Ns N j/\j "__init__"=AE/\OwnTail h e f:=by
 unfold GC at q
 split at q
 ·rename_i dd u m r
  split at q
  ·rename_i v f k0 k1 k2 k3 n k5 k i;simp only[BD,beq_iff_eq,EU]at q;obtain⟨⟨⟨⟨⟨rfl,rfl⟩,b⟩,p⟩,c⟩,d⟩:=q;obtain⟨nm,bs,o,ns,g,s,sn,sub,ab,col,t⟩:=u;dsimp only at k b c d;subst k b;obtain⟨l⟩:=m;have i:l=_:=i;subst i;exact⟨f,ns,nm,g,bs,s,sn,sub,ab,col,dd,k0,k1,k2,k3,k5,_,X _ _ r,.of_isNs (Ii X c),W.nsMap_none_of_in X c d,MA X p⟩
  ·cases q
 ·cases q
def b24(F:FrX X nm Wi AC)(i:X.calm=AC){np cpos pos}(d:Ae X.K AK nm=AA (AA (.ref C)))(f:X.mg nm=AA (.ref C))(g:Gl X nm)(h:(nm==("__debug__":Str))=AG)(q:GC X.K C vB "ValueError.__new__"=AC):
  PS X (.Raise (AA (.Call (.Name nm np) [] [] cpos)) AE pos) λ_ _ H=>Wi H:=λpins s σ H D I hw=>by
 obtain⟨n,N,a,c,bs,hdct,sn,sub,ab,col,dd,k0,k1,k2,k3,k5,l,k,j,b,T⟩:=bb1 I.kIn q;refine wpAny_Raise_call_subT (nm:=a) (q:=c) (N:=N) (bs:=bs) (hdct:=hdct) (sn:=sn) (sub:=sub) (ab:=ab) (col:=col) (dd:=dd) (k0:=k0) (k1:=k1) (k2:=k2) (k3:=k3) (k5:=k5)
  PySem.F.excBase_ValueError (T.hasType PySem.F.excBase_ValueError.hasBase) (I.ok.hd i) rfl b (E5 I g f ⟨rfl,?_⟩ h)
 exact evalArgs_empty ⟨rfl,BU _,k,j,T,λh' e m=>F.raised I d m hw⟩
end
end L2
namespace PySem
variable{b:Bool}{h:Au}{l it:AI}{xs:Array AF}{i:Nat}
abbrev D4(b:Bool)(h:Au)(l:AI)(xs:Array AF):Prop:=match b with|true=>h.IsTuple l xs|false=>h.IsList l xs
abbrev C4(b:Bool)(h:Au)(it l:AI)(i:Nat):Prop:=match b with|true=>h.IsTupleIter it l i|false=>h.IsListIter it l i
def D4.stay{h'}(x:D4 b h l xs)(k:∀o,h.get? l=AA o->h'.get? l=AA o):D4 b h' l xs:=by
 cases b with
 |true=>obtain⟨o,a,r⟩:=x;exact⟨o,k o a,r⟩
 |false=>exact Heap.IsList.at x k
def C4.stay{h'}(x:C4 b h it l i)(k:∀o,h.get? it=AA o->h'.get? it=AA o):C4 b h' it l i:=by
 cases b with
 |true=>obtain⟨o,a,r⟩:=x;exact⟨o,k o a,r⟩
 |false=>exact Heap.IsListIter.at x k
def C4.obj(x:C4 b h it l i):∃o,h.get? it=AA o/\∀v,o.data≠.cell v:=by
 cases b with
 |true=>obtain⟨o,a,d,c⟩:=x;exact⟨o,a,λv z=>by simp_all⟩
 |false=>obtain⟨o,a,d,c⟩:=x;exact⟨o,a,λv z=>by simp_all⟩
def D4.lt(x:D4 b h l xs):l<h.objs.size:=by
 cases b with
 |true=>obtain⟨o,a,_⟩:=x;exact Aq a
 |false=>obtain⟨o,a,_⟩:=x;exact Aq a
section
variable {prog:AZ} {w:At} {A:BG} {E:AF->AJ->Prop} {s:AJ}
def ca7{x}{Q}(I:C4 b s.heap it l i)(L:D4 b s.heap l xs)(a:xs[i]?=AA x)
  (q:∀h',C4 b h' it l (i+1)->BB it s.heap h'->Q x {s with heap:=h'}):AQ (model prog w) A (Bb (.ref it)) Q E s:=by
 cases b with
 |true=>exact av5 I L a q
 |false=>exact wpAny_nextOf_list_item I L a q
def cn0{Q}(c:A.handled=AE)(I:C4 b s.heap it l i)(L:D4 b s.heap l xs)(a:xs[i]?=AE)
  (q:∀h' e,FU it s.heap h'->(∃o,h'.get? e=AA o/\o.cls=.type "StopIteration")->E (.ref e) {s with heap:=h'}):AQ (model prog w) A (Bb (.ref it)) Q E s:=by
 cases b with
 |true=>exact av6 c I L a q
 |false=>exact wpAny_nextOf_list_end c I L a q
def bq8{a}{Q}(h:Q (s.heap.get? a) s):AQ (model prog w) A (Ji a) Q E s:=λΓ p _=>h
end
end PySem
namespace PySem
end PySem
namespace L2
open PySem PySem.Spec PyProof.Rows
section
variable {X:Cx} {pins:List (AI×Obj)} {σ:St} {H:Hp} {s:AJ}
abbrev SqB(b:Bool)(K:AM)(H:Hp)(a:AI)(xs:List V):Prop:=match b with|true=>SqT K H a xs|false=>SqL K H a xs
def Inv.seqB{b}{a}{xs}(I:Inv X pins σ H s)(h:SqB b X.K H a xs):∃c:List AF,g9 xs c/\D4 b s.heap a c.toArray/\xs.length<=sizeLine:=by
 cases b with
 |true=>obtain⟨c,d,e,f⟩:=I.tuple h;exact⟨c,d,e,f⟩
 |false=>obtain⟨c,d,e,f⟩:=I.list h;exact⟨c,d,e.isList,f⟩
end
section
variable {X:Cx}
abbrev de1:V->List V->Hp->VK->Prop:=λx vs H Q=>∃l xs,x=.ref l/\vs=[]/\H l=AA (.lst xs)/\Q .non (upd H l (.lst xs.reverse))
def cj3:MtM X "list.reverse" de1:=by
 intro c s i H x vs v us Q I f g h;obtain⟨l,j,rfl,rfl,d,q⟩:=h;cases f;have b:=g.zero;subst b;obtain⟨z,a,n,r,k,e⟩:=I.lstM d;refine FZ F.slot_list_reverse ⟨_,e,rfl⟩ F.entry_list_reverse (F.args_list_reverse_1 _) (AutoSeq1.list_reverse_list_0 l a.toArray n (by rw[Ad];lia)) ⟨e,?_⟩;refine⟨.non,_,I.lset (its':=a.reverse) d e ?_ r.reverse ?_,rfl,q⟩
 ·simp
 ·rw[Ij];lia
end
end L2
namespace Ek
open PySem PySem.Spec PyProof.Rows L2
section
variable [Tbs]
section
variable {X:Cx} {a:AS} {ta:DT} {pos:Pos}
def cd3{apos}(j:PE X a (up X.K ta))(c:∀i p h,a≠.Call (.Name i p) [] [] h)(b:(apos.endLine==pos.line)=AC):
  PE X (.Call (.Attribute a "reverse" apos) [] [] pos) (up X.K λenv st Q=>ta env st λx st1=>ac5 x st1 Q):=
 PE.imp (bi0 PySem.F.plainAttrs_list PySem.F.slot_list_reverse PySem.F.type_list_reverse cj3 j (C7 c) b) λσ H Q q=>up1 q λv d H' st' Qd is rs e hq=>by
  cases d<;>first|exact AU e|skip
  obtain⟨ds,g,e⟩:=e;obtain⟨vs,f,r⟩:=rs.lst g;rw[is.ref_inv];exact⟨.inl ⟨rfl,vs,.inl (.inl f)⟩,_,vs,rfl,rfl,f,hq _ _ _ (b0 st' _ (.lst ds.reverse)) (Ev.put g) .non (rs.putOld f r.rev) e⟩
end
end
section
variable [Tbs]
end
end Ek
namespace PySem
end PySem
namespace Ek
open PySem PySem.Spec PyProof.Rows L2
section
variable [Tbs]
end
section
variable [Tbs]
variable{x:List BP}{H:Hp}{pos':Pos}
section
variable {X:Cx} {a b c:AS} {ta tb tc:DT} {pos p:Pos} {K:AM}
abbrev upG(K:AM)(t:Tg):TG:=λv σ H Q=>∃d env k,IsD K H d v/\RelE K H env σ/\N9 t d env k/\∀env' σ',RelE K H env' σ'->k env'->Q σ' H
def _root_.L2.PG.imp{X}{x}{t t'}(h:PG X x t)(i:∀v a H Q,t' v a H Q->t v a H Q):PG X x t':=λpins s a H v u Q I r q=>h pins s a H v u Q I r (i v a H Q q)
def cf2{i}{x}(g:X.N.Nodup)(hi:X.N[i]?=AA x)(b:Loc X.env.scope x)(f:X.fn x=AC\/X.env.scope.names.lookup x=AA .local):PG X (.Name x pos) (upG X.K (.n i)):=
 PG.imp (ba6 g hi b f) λv σ H Q q=>by
  obtain⟨d,env,k,a,h,c,e⟩:=q;exact e _ _ (h.set a i) c
abbrev ab7:List Nat->TGs
 |[]=>bm1
 |i::is=>bj6 (as0 i) (ab7 is)
theorem bh0{K}{Q}{k:i9->Prop}:∀c(ds)vs(env)b,ds.length=c.length->IsDs K H ds vs->RelE K H env b->k (T7 env c ds)->(∀a e,RelE K H a e->k a->Q e H)->ab7 c vs b H Q
 |[],[],vs,env,b,_,r,j,g,h=>⟨r.inv_nil,h _ _ j g⟩
 |i::c,d::ds,vs,env,b,f,r,j,g,h=>by
  obtain⟨v,l,rfl,n,m⟩:=r.inv_cons;exact⟨v,l,rfl,bh0 c ds l _ _ (by simpa using f) m (j.set n i) g h⟩
 |[],d::ds,vs,env,b,f,_,_,_,_=>by simp at f
 |i::c,[],vs,env,b,f,_,_,_,_=>by simp at f
def cp4{b:List AS}{k0}{a:List Nat}(m:X.calm=AC)(h:PGs X b (ab7 a))(l:(CB b X.env).length=a.length)(c:(CB b X.env).findIdx? (·.1)=AE):PG X (.Tuple b k0 pos) (upG X.K (.tup a)):=
 PG.imp (cl4 m h l c) λv σ H Q q=>by
  obtain⟨d,env,k,g,n,⟨ds,rfl,f,i⟩,j⟩:=q;obtain⟨q,vs,rfl,e,r⟩:=g.tup_inv;exact⟨q,vs,rfl,e,r.len▸f,bh0 a ds vs env σ f r n i j⟩
structure EndsR(K:AM)(st:Sto)(H:Hp)(Fd:DEnds)(F:Ends):Prop where
 nx:∀env σ H' st',Ev st H st' H'->RelE K H' env σ->RelS K st' H'->Fd.nx env st'->F.nx σ H'
 bk:∀env σ H' st',Ev st H st' H'->RelE K H' env σ->RelS K st' H'->Fd.bk env st'->F.bk σ H'
 ct:∀env σ H' st',Ev st H st' H'->RelE K H' env σ->RelS K st' H'->Fd.ct env st'->F.ct σ H'
 rt:w6 K st H Fd.rt F.rt
theorem EndsR.after{st st1}{H1}{Fd}{F}(e:EndsR K st H Fd F)(a:Ev st H st1 H1):EndsR K st1 H1 Fd F:=
 ⟨λenv σ H' st' ev'=>e.nx env σ H' st' (a.trans ev'),λenv σ H' st' ev'=>e.bk env σ H' st' (a.trans ev'),λenv σ H' st' ev'=>e.ct env σ H' st' (a.trans ev'),e.rt.after a⟩
abbrev upS(K:AM)(t:DS):TS:=λF σ H=>∃env st Fd,RelE K H env σ/\RelS K st H/\t Fd env st/\EndsR K st H Fd F
variable {t u:DS} {s1:BP} {j7:List BP}
def cs7:PSs X [] (upS X.K λF env st=>F.nx env st):=PSs.imp cg4 λF σ H⟨env,st,Fd,hE,hS,ht,hq⟩=>hq.nx env σ H st Ev.refl hE hS ht
def b82(b:PS X s1 (upS X.K t))(a:PSs X j7 (upS X.K u)):PSs X (s1::j7) (upS X.K λF env st=>t {F with nx:=u F} env st):=
 PSs.imp (a69 b a) λF σ H⟨env,st,Fd,hE,hS,ht,hq⟩=>⟨env,st,{Fd with nx:=u Fd},hE,hS,ht,λenv' σ' H' st' ev hE' hS' q=>⟨env',st',Fd,hE',hS',q,hq.after ev⟩,hq.bk,hq.ct,hq.rt⟩
def bg8{i}{x}(g:X.N.Nodup)(hi:X.N[i]?=AA x)(b:Loc X.env.scope x)(f:PE X a (up X.K ta))(c:Cp a (AA (.Name x pos')) pos.line X.env=pure AG)(e:X.fn x=AC\/X.env.scope.names.lookup x=AA .local):
  PS X (.Assign [.Name x pos'] a pos) (upS X.K λF env st=>ta env st λd st1=>F.nx (env.set i (AA d)) st1):=
 PS.imp (bi2 g hi b f c e) λF σ H⟨env,st,Fd,hE,hS,ht,hq⟩=>⟨env,st,_,hE,hS,ht,λv d H' st' ev is=>hq.nx _ _ H' st' ev ((hE.mono (ev.tk hS)).set is i)⟩
def cm3{o i v}{to ti tv}(n:PE X v (up X.K tv))(s:PE X o (up X.K to))(hi:PE X i (up X.K ti))
  (c:∀w,assign (.Subscript o i pos') X.env w=do
   let e <-holding [w] (eval o X.env)
   let g <-holding [w,e] (eval i X.env)
   Ho pos'
   holding [w,e,g] (KW e g w)
   release [w,e,g] []) (p:Gp [.Subscript o i pos'] v pos.line X.env=pure AG) (m:swappedStores [.Subscript o i pos'] v X.env=pure AE) :
  PS X (.Assign [.Subscript o i pos'] v pos) (upS X.K λF env st=>tv env st λd st1=>to env st1 λx st2=>ti env st2 λy st3=>∃a j k ds,x=.ref a/\y=.int j/\st3 a=AA (.lst ds)/\ixN ds.length j=AA k/\F.nx env (b0 st3 a (.lst (ds.set k d)))):=
 PS.imp (cs2 n (cm9 s hi bx4 c) p m rfl) λF σ H⟨env,st,Fd,hE,hS,ht,hq⟩=>⟨env,st,_,hE,hS,ht,λw d H1 st1 ev1 is1 rs1 q1=>
  ⟨env,st1,_,hE.mono (ev1.tk hS),rs1,q1,λov x H2 st2 ev2 is2 rs2 q2=>⟨env,st2,_,(hE.mono (ev1.tk hS)).mono (ev2.tk rs1),rs2,q2,λiv y H3 st3 ev3 is3 rs3 f=>by
   obtain⟨q,j,k,ds,rfl,rfl,l,t,f⟩:=f;obtain⟨vs,h,r⟩:=rs3.lst l;have b:=(is1.mono (ev2.tk rs1)).mono (ev3.tk rs2);exact ⟨q,vs,j,k,(is2.mono (ev3.tk rs2)).ref_inv,is3.int_inv,h,by rw[<-r.len];exact t,hq.nx env σ _ _ (((ev1.trans ev2).trans ev3).trans (Ev.put l)) ((((hE.mono (ev1.tk hS)).mono (ev2.tk rs1)).mono (ev3.tk rs2)).mono (TK.put h)) (rs3.putOld h (r.set b k)) f⟩⟩⟩⟩
def cc8{o v}{to tv}{f}{C:Str->List Str}(B:∀c a,Ae X.K AK c=AA (AA (.ref a))->f∈C c->Cls X.K a/\L8 X.K a f)(m:PE X v (up X.K tv))(u:PE X o (up X.K to))(s:Cp v (AA (.Attribute o f pos')) pos.line X.env=pure AG):
  PS X (.Assign [.Attribute o f pos'] v pos) (upS X.K λF env st=>tv env st λd st1=>to env st1 λx st2=>∃p c g,x=.ref p/\st2 p=AA (.ins c g)/\f∈C c/\g.length<1000/\F.nx env (b0 st2 p (.ins c (l7 f d g)))):=
 PS.imp (cv2 u m s) λF σ H q=>by
  obtain⟨env,st,G,j,i,n,t⟩:=q;refine⟨env,st,_,j,i,n,λw d H1 st1 ev is rs q1=>?_⟩;refine⟨env,st1,_,j.mono (ev.tk i),rs,q1,λy x H2 st2 ev2 is2 rs2 q2=>?_⟩;obtain⟨p,c,g,rfl,b,A,z,y⟩:=q2;obtain⟨a,k,vs,l,e,r⟩:=rs2.ins b;obtain⟨E,D⟩:=B c a e A;have h:=is.mono (ev2.tk rs);have tk:=TK.putI (K:=X.K) (o:=.ins a k (z7 f w vs)) l;refine⟨p,a,k,vs,is2.ref_inv,l,E,D,r.length▸z,?_⟩;refine t.nx env σ _ _ ((ev.trans ev2).trans (Ev.put b)) (((j.mono (ev.tk i)).mono (ev2.tk rs)).mono tk) (rs2.putAny (ob:=.ins c (l7 f d g)) tk ⟨a,k,_,o0,e,(r.put h f).mono tk⟩ (by grind)) y
def c43(c:PE X a (up X.K ta))(b:Cp a AE pos.line X.env=pure AG):PS X (.Expr a pos) (upS X.K λF env st=>ta env st λ_ st1=>F.nx env st1):=
 PS.imp (bb8 c b) λF σ H⟨env,st,Fd,hE,hS,ht,hq⟩=>⟨env,st,_,hE,hS,ht,λv d H' st' ev is=>hq.nx _ _ H' st' ev (hE.mono (ev.tk hS))⟩
def cl2(b:PE X a (up X.K ta)):PS X (.Return (AA a) pos) (upS X.K λF env st=>ta env st F.rt):=
 PS.imp (cq2 b) λF σ H⟨env,st,Fd,hE,hS,ht,hq⟩=>⟨env,st,_,hE,hS,ht,hq.rt⟩
def b99:PS X (.Return AE pos) (upS X.K λF _ st=>F.rt .non st):=PS.imp ce4 λF σ H⟨env,st,Fd,hE,hS,ht,hq⟩=>hq.rt.here .non hS ht
def cg9:PS X (.Pass pos) (upS X.K λF env st=>F.nx env st):=PS.imp b90 λF σ H⟨env,st,Fd,hE,hS,ht,hq⟩=>hq.nx env σ H st Ev.refl hE hS ht
def b64:PS X (.Continue pos) (upS X.K λF env st=>F.ct env st):=PS.imp bo4 λF σ H⟨env,st,Fd,hE,hS,ht,hq⟩=>hq.ct env σ H st Ev.refl hE hS ht
def c57{tc}{y}(a:PT X c (upB X.K tc))(d:PSs X x (upS X.K t))(b:PSs X y (upS X.K u)):PS X (.If c x y pos) (upS X.K λF env st=>tc env st λk st1=>if k=AC then t F env st1 else u F env st1):=
 PS.imp (c07 a d b) λF σ H⟨env,st,Fd,hE,hS,ht,hq⟩=>⟨env,st,_,hE,hS,ht,λk H' st' ev rs q=>by
  cases k with
  |true=>exact⟨env,st',Fd,hE.mono (ev.tk hS),rs,q,hq.after ev⟩
  |false=>exact⟨env,st',Fd,hE.mono (ev.tk hS),rs,q,hq.after ev⟩⟩
def b19{tc}(i:GX (model X.prog X.w) X.A X.env X.xe)(j:PT X c (upB X.K tc))(l:PSs X x (upS X.K t)):PS X (.While c x [] pos) (upS X.K λF env st=>∃n,A4 tc t F n env st):=
 PS.imp (by2 i j l) λF σ H⟨env,st,Fd,hE,hS,⟨n,ht⟩,hq⟩=>by
  refine⟨λm σ' H'=>∃env' a,RelE X.K H' env' σ'/\RelS X.K a H'/\Ev st H a H'/\A4 tc t Fd m env' a,⟨n,env,st,hE,hS,Ev.refl,ht⟩,?_⟩;rintro m σ1 H1 ⟨env1,st1,hE1,hS1,ev1,w1⟩;cases m with
  |zero=>exact w1.elim
  |succ m=>
   refine⟨env1,st1,_,hE1,hS1,w1,λk H2 st2 ev2 rs2 q2=>?_⟩;cases k with
   |false=>
    exact hq.nx env1 σ1 H2 st2 (ev1.trans ev2) (hE1.mono (ev2.tk hS1)) rs2 q2
   |true=>
    refine⟨λσ' H'=>∃env' a,RelE X.K H' env' σ'/\RelS X.K a H'/\Ev st H a H'/\A4 tc t Fd m env' a,λσ' H' h=>⟨m,Gu _,h⟩,?_⟩;have e:=hq.after (ev1.trans ev2);have d:=ev1.trans ev2;exact⟨env1,st2,_,hE1.mono (ev2.tk hS1),rs2,q2,λenv' σ' H' a ev hE' hS' q=>⟨env',a,hE',hS',d.trans ev,q⟩,e.nx,λenv' σ' H' a ev hE' hS' q=>⟨env',a,hE',hS',d.trans ev,q⟩,e.rt⟩
def cu5{tg iter}{ti}{g}(u:GX (model X.prog X.w) X.A X.env X.xe)(B:X.calm=AC)(hi:PI X tg iter (upI X.K ti))(z:PG X tg (upG X.K g))(C:PSs X x (upS X.K t))(s:∀v,Dd iter X.env v=pure v):
  PS X (.For tg iter x [] pos) (upS X.K λF env st=>ti env st λitems chk st1=>t6 chk g t F items env st1):=
 PS.imp (cj9 u B hi z C s) λF σ H⟨env,st,Fd,hE,hS,ht,hq⟩=>by
  refine⟨env,st,_,hE,hS,ht,λitems chk st1 H1 J ev1 rs1 ok q1=>?_⟩;refine⟨λi m σ' H'=>m=items.length-i/\i<=items.length/\∃env' a,RelE X.K H' env' σ'/\RelS X.K a H'/\Ev st H a H'/\TK X.K H1 H'/\t6 chk g t Fd (items.drop i) env' a,⟨items.length,∎,BU _,env,st1,hE.mono (ev1.tk hS),rs1,ev1,TK.refl,q1⟩,?_⟩;rintro i m σ2 H2 ⟨rfl,hi,env2,st2,hE2,hS2,ev2,tk2,k⟩
  by_cases c:i<items.length
  ·right
   rw[ER c]at k;obtain⟨j,k⟩:=k;refine⟨ok.go i st2 H2 tk2 hS2 j c,λσ' H'=>i+1<=items.length/\∃env' a,RelE X.K H' env' σ'/\RelS X.K a H'/\Ev st H a H'/\TK X.K H1 H'/\t6 chk g t Fd (items.drop (i+1)) env' a,λσ' H' h=>⟨items.length-(i+1),⋯,rfl,h⟩,λv H3 y=>?_⟩;obtain⟨d,E,r,n,l⟩:=ok.yld i st2 H2 v H3 tk2 hS2 j c y;have D:d=items[i]:=by simp_all
   subst D;refine⟨_,env2,_,r,hE2.mono (n.tk hS2),k,λenv4 σ4 hE4 q4=>?_⟩;have f:=ev2.trans n;have p:=hq.after f;have o:=tk2.trans (n.tk hS2);exact⟨env4,st2,_,hE4,l,q4,λenv' σ' H' a ev hE' hS' q=>⟨c,env',a,hE',hS',f.trans ev,o.trans (ev.tk l),q⟩,p.nx,λenv' σ' H' a ev hE' hS' q=>⟨c,env',a,hE',hS',f.trans ev,o.trans (ev.tk l),q⟩,p.rt⟩
  ·left
   have e:i=items.length:=by lia
   subst e;rw[JT]at k;exact⟨ok.stop st2 H2 tk2 hS2 k.1,hq.nx env2 σ2 H2 st2 ev2 hE2 hS2 k.2⟩
def b40{env}{σ}{fr}{k}(r:RelE K H env σ):RelE K H (S6 fr k env) (L6 fr k σ):=by
 refine⟨by simp[S6,L6],λi d h=>?_⟩;unfold S6 at h;unfold L6
 by_cases hi:i<fr.length
 ·rw[Aa (by simp_all),Ak]at h ⊢;rw[AO hi]at h ⊢;simp only[Gq,Bj]at h ⊢;cases q:env[fr[i]]? with
  |none=>simp_all
  |some o=>
   rw[q]at h;have h':=h;subst h';obtain⟨v,b,a⟩:=r.at' _ d q;exact⟨v,by rw[b];rfl,a⟩
 ·rw[An (by simp_all),Da]at h
  split at h<;>cases h
def a00{U:i9->Sto->ItK->Prop}{g:Tg}{M:DB}{fr:List Nat}{k:Nat}{N:L2.St}{Q:VK}
  (h:up K (λenv st Q=>U env st λitems chk st1=>items.length<=1000000/\z6 chk g M ta (λacc b=>∀p,b p=AE->Q (.ref p) (b0 b p (.lst acc))) items [] (S6 fr k env) st1) N H Q) :
  ar3 fr k (upI K U) (upG K g) (upB K M) (up K ta) Q N H:=by
 obtain⟨env,st,Qd,hE,Z,ht,hq⟩:=h;refine⟨env,st,_,hE,Z,ht,λitems chk st1 H1 J ev1 rs1 ok P p hp=>?_⟩;obtain⟨W,P⟩:=P;have T:RelE K H1 env N:=hE.mono (ev1.tk Z);refine⟨λi m σ' j=>m=items.length-i/\i<=items.length/\∃f b acc s,RelE K j f σ'/\RelS K b j/\b p=AE/\j p=AA (.lst s)/\IsDs K j acc s/\acc.length<=i/\TK K H1 j/\(∀a o,H a=AA o->st a=AE->a≠p/\(∃r,j a=AA r/\TbE o r)/\b a=AE) /\
  z6 chk g M ta (λacc b=>∀p,b p=AE->Qd (.ref p) (b0 b p (.lst acc))) (items.drop i) acc f b,⟨items.length,∎,BU _,S6 fr k env,st1,[],[],(b40 T).mono (TK.new hp),rs1.new hp,rs1.free hp,o0,.nil,BU _,TK.new hp,λa o h1 h2=>?_,P⟩,?_⟩
 ·obtain⟨⟨r,x,t⟩,y⟩:=ev1 a o h1 h2;have V:a≠p:=o7 x hp;exact⟨V,⟨r,by rw[f9 V];exact x,t⟩,y⟩
 rintro i m σ2 H2 ⟨rfl,hi,env2,st2,acc,s,hE2,hS2,sp2,hp2,ra,hal,tk2,old,F⟩
 by_cases q:i<items.length
 ·right
  rw[ER q]at F;obtain⟨E,F⟩:=F;refine⟨ok.go i st2 H2 tk2 hS2 E q,λσ' j=>i+1<=items.length/\∃f b acc s,RelE K j f σ'/\RelS K b j/\b p=AE/\j p=AA (.lst s)/\IsDs K j acc s/\acc.length<=i+1/\TK K H1 j/\(∀a o,H a=AA o->st a=AE->a≠p/\(∃r,j a=AA r/\TbE o r)/\b a=AE) /\
   z6 chk g M ta (λacc b=>∀p,b p=AE->Qd (.ref p) (b0 b p (.lst acc))) (items.drop (i+1)) acc f b,λσ' j h=>⟨items.length-(i+1),⋯,rfl,h⟩,λv H3 y=>?_⟩
  obtain⟨d,X,R,L,A⟩:=ok.yld i st2 H2 v H3 tk2 hS2 E q y;have ed:d=items[i]:=by rw[AO q]at X;exact(BA X).symm
  subst ed;refine⟨_,env2,_,R,hE2.mono (L.tk hS2),F,λenv4 σ4 hE4 q4=>?_⟩;have D:∀{j:Hp}{b:Sto},Ev st2 H2 b j->∀a o,H a=AA o->st a=AE->a≠p/\(∃r,j a=AA r/\TbE o r)/\b a=AE:=λev a o h1 h2=>by
   obtain⟨x,⟨o1,y,t1⟩,z⟩:=old a o h1 h2;obtain⟨⟨o2,y',t2⟩,z'⟩:=ev a o1 y z;exact⟨x,⟨o2,y',t1.trans t2⟩,z'⟩
  refine⟨env4,st2,_,hE4,A,q4,λbb H5 st5 ev5 rs5 q5=>?_⟩;have l:Ev st2 H2 st5 H5:=L.trans ev5;have C:TK K H2 H5:=l.tk hS2;obtain⟨S,O⟩:=l.get hp2 sp2 (λ_=>nofun);cases bb with
  |false=>
   simp only[Bm,if_false]at q5 ⊢;exact⟨q,env4,st5,acc,s,hE4.mono (ev5.tk A),rs5,O,S,ra.mono C,⋯,tk2.trans C,D l,q5⟩
  |true=>
   refine⟨env4,st5,_,hE4.mono (ev5.tk A),rs5,q5,λw e H6 st6 ev6 is6 rs6 q6=>?_⟩;have u:Ev st2 H2 st6 H6:=l.trans ev6;have B:TK K H2 H6:=u.tk hS2;obtain⟨n,G⟩:=u.get hp2 sp2 (λ_=>nofun);have I:=ra.mono B;have hsz:s.length<sizeLine:=by
    rw[<-I.len];have:(1000001:Nat)<=sizeLine:=by decide
    lia
   refine⟨s,n,hsz,q,env4,st6,acc++[e],s++[w],(hE4.mono ((ev5.trans ev6).tk A)).mono (TK.put n),rs6.stay (TK.put n) (λa o h1=>f9 λz=>by rw[z,G]at h1;cases h1) (af7 (by rw[n];exact λ_ z=>by cases z)),G,o0,(I.append (.cons is6 .nil)).mono (TK.put n),by simp;lia,(tk2.trans B).trans (TK.put n),λa o h1 h2=>?_,q6⟩;obtain⟨x,⟨r,y,t⟩,z⟩:=D u a o h1 h2;exact⟨x,⟨r,by rw[f9 x];exact y,t⟩,z⟩
 ·left
  have e:i=items.length:=by lia
  subst e;rw[JT]at F;refine⟨ok.stop st2 H2 tk2 hS2 F.1,hq _ (.ref p) H2 (b0 st2 p (.lst acc)) (λa o h1 h2=>?_) (.ref p) ⟨λa o h1=>?_,hS2.tb⟩ (F.2 p sp2)⟩
  ·obtain⟨x,y,z⟩:=old a o h1 h2;exact⟨y,by rw[B6 x];exact z⟩
  ·by_cases Y:a=p
   ·subst Y;rw[f7]at h1;cases h1;exact⟨s,hp2,ra⟩
   ·rw[B6 Y]at h1;exact hS2.ob a o h1
end
end
section
variable [Tbs]
@[reducible]noncomputable def CXk(P:AZ)(w:At)(K:AM)(b:Bool):CXT:=CXb P w K "NoKind" z5 b
@[reducible]noncomputable def CXz(X:Cx)(b:Bool):CXT:=CXk X.prog X.w X.K b
structure FnT(X:Cx)(CX:CXT)(f:Str)(sp:Spec):Prop where
 ex:∃k a fd ps,FnOk X.prog X.w X.K X.mg X.base CX k a fd ps (t5 X.K sp)/\Room k X.A/\X.mg f=AA (.ref a)/\BQ X.K (.ref a)=AC/\o8 X.K fd ps []
structure TryOk(X:Cx):Prop where
 ex:∃C Ce,Ae X.K AK "NoKind"=AA (AA (.ref C))/\X.mg "EvenError"=AA (.ref Ce)/\JM X.K (.ref C) (.ref Ce)=AA AC
 rc:∃C,Ae X.K AK "NoKind"=AA (AA (.ref C))/\X.mg "NoKind"=AA (.ref C)/\GC X.K C vB "ValueError.__new__"=AC
structure FrS(X:Cx)(b:Bool):Prop where
 stk:X.stack=X.env::X.outer
 fr:X.env.frame=AA X.env.locals
 pass:GX (model X.prog X.w) X.A X.env X.xe
 rai:b=AC->FrX X "NoKind" z5 AC
section
variable {X:Cx} {pos:Pos}
def b46{b}{np cpos}{q}(F:FrS X b)(e:q->TryOk X)(d:X.calm=AC)(c:Gl X "NoKind"):PS X (.Raise (AA (.Call (.Name "NoKind" np) [] [] cpos)) AE pos) (upS X.K λ_ _ _=>b=AC/\q):=λpins s σ H D I h=>by
 obtain⟨_,_,_,_,f,a,_⟩:=h;obtain⟨C,j,i,g⟩:=(e a.2).rc;exact b24 (F.rai a.1) d j i c ∅ g pins s σ H D I f.tb
def FnOk.calm{P}{w}{K}{mg}{base}{k}{f}{fd}{ps}{sp}(F:FnOk P w K mg base (CXk P w K AG) k f fd ps sp){CX}:FnOk P w K mg base CX k f fd ps sp:=
 ⟨F.len,λA outer s H args us vs Q E h1 h2 h3 h4 h5=>De (F.run A outer s H args us vs Q E h1 h2 h3 h4 h5) λr s' q=>by
  cases r with
  |ok b=>cases b<;>exact q
  | error e=>exact absurd q.1 AH⟩
def FnOk.or{P}{w}{K}{mg}{base}{CX}{k}{f}{fd}{ps}{sp sp'}(F:FnOk P w K mg base CX k f fd ps sp)(a:FnOk P w K mg base CX k f fd ps sp'):
  FnOk P w K mg base CX k f fd ps λvs H Q E=>sp vs H Q E\/sp' vs H Q E:=
 ⟨λvs H Q E h=>h.elim (F.len vs H Q E) (a.len vs H Q E),λA outer s H args us vs Q E h1 h2 h3 h4 h5=>h5.elim (F.run A outer s H args us vs Q E h1 h2 h3 h4) (a.run A outer s H args us vs Q E h1 h2 h3 h4)⟩
def cd6{K}{a b}{f}{vs}{H}{Q}{E}(h:t5 K (orF a b f) vs H Q E):t5 K (a f) vs H Q E\/t5 K (b f) vs H Q E:=by
 obtain⟨ds,st,g,e,d,i,c⟩:=h;exact i.elim (λq=>.inl ⟨ds,st,g,e,d,q,c⟩) λq=>.inr ⟨ds,st,g,e,d,q,c⟩
end
end
section
variable [Tbs]
structure Wk(K:AM)(H H':Hp):Prop where
 tp:∀a xs,SqX K H a xs->SqX K H' a xs
 fz:∀a o u,H a=AA (.frz o u)->(∀vs,u≠.lst vs)->∃u',H' a=AA (.frz o u')/\∀vs,u'≠.lst vs
section
variable {K:AM} {H H':Hp} {d:D} {v:V} {ds:List D} {vs:List V}
def G7.wk{cv}(h:G7 H cv)(k:Wk K H H'):G7 H' cv:=let⟨c,o,u,vs,q,t,i,g,f,e⟩:=h;let⟨a,d,b⟩:=k.fz _ _ _ g f;⟨c,o,a,vs,q,t,i,d,b,e⟩
theorem Q1.wk{f}{np}{N}{b}{us}(h:Q1 H f np N b us)(k:Wk K H H'):Q1 H' f np N b us:=by
 obtain⟨fd,m,y,⟨o,u,t,s,r⟩,q,p,n⟩:=h;obtain⟨j,e,d⟩:=k.fz _ _ _ t s;refine⟨fd,m,y,⟨o,j,e,d,r⟩,q.wk k,λx c hx=>?_,λi v hv=>?_⟩
 ·obtain⟨l,j,w,a,b,c⟩:=p x c hx;obtain⟨g,e,d⟩:=k.fz _ _ _ a b;exact⟨l,g,w,e,d,c⟩
 ·obtain⟨x,c,l,j,w,D,C,B,A,z⟩:=n i v hv;obtain⟨g,e,d⟩:=k.fz _ _ _ B A;exact⟨x,c,l,g,w,D,C,e,d,z⟩
theorem IsD.wk(h:IsD K H d v)(k:Wk K H H'):IsD K H' d v:=by
 induction h with
 |non=>exact .non
 |bl b=>exact .bl b
 |int i=>exact .int i
 |str x=>exact .str x
 |ref a=>exact .ref a
 |ktup h n=>exact .ktup h n
 |fn h=>exact .fn h
 |clo a b _ c=>exact .clo (a.wk k) b c
 |tup a b _ c=>exact .tup (k.tp _ _ a) b c
theorem TabOk.wk{ps}(o:TabOk H ps)(k:Wk K H H'):TabOk H' ps:=⟨o.tr,λpos cv hc=>(o.co pos cv hc).wk k⟩
def Wk.sel:Wk K H (y4 H):=⟨λa xs h=>by
 rcases h with h|⟨k,(h|⟨o,h⟩)|h⟩
 ·exact .inl ((B7 h).trans rfl)
 ·exact .inr ⟨k,.inl (.inl ((B7 h).trans rfl))⟩
 ·exact .inr ⟨k,.inl (.inr ⟨o,(B7 h).trans rfl⟩)⟩
 ·exact .inr ⟨k,.inr h⟩,λa o u h n=>by
 obtain⟨a,c,b⟩:=Z0 o u;exact⟨a,(B7 h).trans c,b n⟩⟩
def RelS.none0(h:z5 H):RelS K (λ_=>AE) (y4 H):=⟨λ_ _ e=>(nomatch e),λP hP=>by
 obtain⟨a,e,o⟩:=h P hP;exact⟨a,(B7 e).trans rfl,o.wk (K:=K) Wk.sel⟩⟩
def ag8:TK K H (mrg H H'):=⟨⟨λa xs q=>by
 rcases q with(q|⟨a,q⟩)|q
 ·exact .inl (.inl (t4 q λ_=>nofun))
 ·exact .inl (.inr ⟨a,t4 q λ_=>nofun⟩)
 ·exact .inr q,λa xs q=>t4 q λ_=>nofun⟩,λa o u q _=>t4 q λ_=>nofun⟩
def bg3{st}(r:RelS K st H){a}{o}(h:st a=AA o):mrg H H' a=H a:=by
 have z:=r.ob a o h;cases o with
 |lst ds=>obtain⟨vs,b,_⟩:=z;rw[b];exact t4 b λ_=>nofun
 |fro ds=>
  obtain⟨vs,b|⟨u,b⟩,_⟩:=z
  ·rw[b];exact t4 b λ_=>nofun
  ·rw[b];exact t4 b λ_=>nofun
 |dct d=>obtain⟨vs,b,_⟩:=z;rw[b];exact t4 b λ_=>nofun
 |dtt d=>obtain⟨vs,b,_⟩:=z;rw[b];exact t4 b λ_=>nofun
 |ins c m=>obtain⟨C,p,vs,b,_⟩:=z;rw[b];exact t4 b λ_=>nofun
 |exc c=>obtain⟨C,b,_⟩:=z;rw[b];exact t4 b λ_=>nofun
 |exa c n=>obtain⟨C,_,_,_,_,b,_⟩:=z;rw[b];exact t4 b λ_=>nofun
structure Bh(H H':Hp):Prop where
 no:∀b o,H b=AA o->im o=AE->H' b=AE
 im:∀b o o',H b=AA o->im o=AA o'->(∀ps,o≠.tbl ps)->H' b=AA o'
 tb:∀b ps,H b=AA (.tbl ps)->∃ps',H' b=AA (.tbl ps')
def Bh.of{X}{pins}{g:L2.St}{s s':AJ}(I:Inv X pins g H s){fs}(a:Un fs [] (y4 H) H' s.heap s'.heap):Bh H H':=⟨λb o e z=>by
  obtain⟨u,k⟩:=(I.hok b o e).ex;exact a.free b u k ((B7 e).trans z) AW,λb o o' e z n=>by
  rcases Y3 o with l|⟨i,rfl⟩|⟨c,rfl⟩|⟨ob,u,rfl⟩
  ·lia
  ·cases z;exact a.tups b i ((B7 e).trans rfl)
  ·simp_all
  ·obtain⟨j,f,_⟩:=Z0 ob u;rw[f]at z;cases z;exact a.frzs b ob j ((B7 e).trans f),λb c e=>by
  obtain⟨d,h⟩:=a.tbls b c ((B7 e).trans rfl);exact⟨_,h⟩⟩
def Bh.put(B:Bh H H'){a}{o}(h:H a=AE):Bh H (upd H' a o):=
 ⟨λb u e z=>f9 (o7 e h)▸B.no b u e z,λb u u' e z n=>f9 (o7 e h)▸B.im b u u' e z n,λb ps e=>f9 (o7 e h)▸B.tb b ps e⟩
def Bh.up(B:Bh H H'){c}{o}(e:H' c=AA o)(n:∀ob u,o≠.frz ob u):mrg H H' c=AA o:=by
 cases q:H c with
 |none=>rwa[W8 q]
 |some z=>
  rcases Y3 z with b|⟨f,rfl⟩|⟨g,rfl⟩|⟨ob,u,rfl⟩
  ·rw[B.no c z q b]at e;cases e
  ·rw[B.im c _ _ q rfl λ_=>nofun]at e;cases e;exact t4 q λ_=>nofun
  ·rwa[T8 q]
  ·obtain⟨a,d,_⟩:=Z0 ob u;rw[B.im c _ _ q d λ_=>nofun]at e;cases e;exact absurd rfl (n ob a)
def Bh.fz(B:Bh H H'){c}{ob}{u'}(e:H' c=AA (.frz ob u')):∃u,mrg H H' c=AA (.frz ob u)/\(u=u'\/L2.im (.frz ob u)=AA (.frz ob u')):=by
 cases q:H c with
 |none=>rw[W8 q];exact⟨u',e,.inl rfl⟩
 |some z=>
  rcases Y3 z with d|⟨f,rfl⟩|⟨h,rfl⟩|⟨a,u,rfl⟩
  ·rw[B.no c z q d]at e;cases e
  ·rw[B.im c _ _ q rfl λ_=>nofun]at e;cases e
  ·rw[T8 q];exact⟨u',e,.inl rfl⟩
  ·obtain⟨g,b,_⟩:=Z0 a u;rw[B.im c _ _ q b λ_=>nofun]at e;cases e;exact⟨u,t4 q λ_=>nofun,.inr b⟩
def cr1{ob}{u}{xs}(h:L2.im (.frz ob u)=AA (.frz ob (.tup xs))):u=.tup xs:=by
 cases u<;>cases h;rfl
def Bh.wk(B:Bh H H'):Wk K H' (mrg H H'):=⟨λa xs h=>by
 rcases h with h|⟨k,(h|⟨o,h⟩)|h⟩
 ·exact .inl (B.up h λ_ _=>nofun)
 ·exact .inr ⟨k,.inl (.inl (B.up h λ_ _=>nofun))⟩
 ·obtain⟨u,a,rfl|b⟩:=B.fz h
  ·exact .inr ⟨k,.inl (.inr ⟨o,a⟩)⟩
  ·cases cr1 b;exact .inr ⟨k,.inl (.inr ⟨o,a⟩)⟩
 ·exact .inr ⟨k,.inr h⟩,λa o u' h n=>by
 obtain⟨u,a,rfl|b⟩:=B.fz h
 ·exact⟨_,a,n⟩
 ·refine⟨u,a,λvs z=>?_⟩;subst z;cases b;exact n vs rfl⟩
def Bh.tabs(B:Bh H H')(h:z5 H)(h':z5 H'):z5 (mrg H H'):=λP hP=>by
 obtain⟨c,e,_⟩:=h P hP;obtain⟨a,b,o⟩:=h' P hP;exact⟨a,(T8 e).trans b,o.wk (K:=[]) B.wk⟩
def Bh.ev(B:Bh H H'){st}:Ev st H st (mrg H H'):=λa o h k=>by
 refine⟨?_,k⟩
 by_cases z:∃ps,o=.tbl ps
 ·obtain⟨ps,rfl⟩:=z;obtain⟨c,h'⟩:=B.tb a ps h;exact⟨_,(T8 h).trans h',.inr ⟨_,_,rfl,rfl⟩⟩
 ·exact⟨o,t4 h λps e=>z ⟨ps,e⟩,.inl rfl⟩
end
end
section
variable [Tbs]
abbrev de5:Unit->AF->Bool
 |_,.none=>AC
 |_,_=>AG
abbrev ar4(prog:AZ)(w:At):KeyKind prog w Unit where
 is:=de5
 hash:=λ_=>0xFCA86420
 inj:=λ_ _ _ _ _=>rfl
 byValue:=λ_ v h=>by cases v<;>first|rfl|cases h
 pyHash:=λ{A E s k v Q}hv h=>by
  cases v<;>first|cases hv|skip
  exact W.pyHash_slot (T:="NoneType") rfl F.slot_NoneType_hash F.entry_NoneType_hash (F.args_NoneType_hash_1 _) (Kr _) (.inl rfl) (AD (AL (AD (Hh (AL ⟨_,_,rfl,h⟩)))))
 eqBool:=λ{A E s a b u v Q}hu hv h=>by
  cases u<;>first|cases hu|skip
  cases v<;>first|cases hv|skip
  unfold PySem.eqBool
  try with_reducible refine BO ?_
  rw[if_pos (by rfl)];exact AD (Ef (AL h))
 «strs»:=λ_ _ _ _ h=>by cases h
section
variable {X:Cx} {a b:AS} {ta tb:DT} {pos:Pos}
def bh4{P}{w}{h:Au}{a}(d:h.DictOfH (NK.dataKind P w) a []):h.MapOf (ar4 P w) a (λ_=>AE):=by
 obtain⟨o,f,g,e,c,b,i,_,_⟩:=d;have:f=#[]:=by
  simp_all
 subst this;exact⟨o,#[],g,e,c,b,λe he=>by simp at he,λk=>rfl⟩
def be1(c:Bool):OpR X (Co (if c then .NotIn else .In)) (λx y H Q=>∃a,x=.non/\y=.ref a/\H a=AA (.dT [])/\Q (.bl c) H):=by
 intro d s l H x y v u Q I j i h;obtain⟨a,rfl,rfl,e,q⟩:=h;cases(show u=Al a from i);cases(show v=BX from j);obtain⟨z,f,g,b,dd⟩:=X2 I.hok (.inl e);have:g=[]:=by cases b;rfl
 subst this;cases c with
 |true=>exact wpAny_notIn_of (knd:=ar4 X.prog X.w) (k:=()) (key:=.none) rfl f (bh4 dd) ⟨.bl AC,H,I.tok _,rfl,q⟩
 |false=>exact wpAny_in_of (knd:=ar4 X.prog X.w) (k:=()) (key:=.none) rfl f (bh4 dd) ⟨.bl AG,H,I.tok _,rfl,q⟩
end
end
end Ek
namespace HT
open PySem PySem.Spec PyProof.Rows
section
variable {prog:AZ} {w:At} {A:BG} {E:AF->AJ->Prop} {s:AJ}
def getItem_tuple_whole{t sl}{items}{vl vu}{lo hi}{Q}(b:IG s.heap t items)(f:s.heap.IsSliceOf sl vl vu .none)(i:GR vl lo)(g:GR vu hi)
  (l:sIx items.size 0 lo=0/\sIx items.size items.size hi=items.size)
  (h:Q (.ref t) s):AQ (model prog w) A (EA (.ref t) (.ref sl)) Q E s:=by
 obtain⟨j,c,d,k⟩:=id f;have e:s.TypeIs (.ref sl) "slice":=⟨j,c,d⟩;unfold EA
 try with_reducible refine BO ?_
 refine AD (HG b.typeIs ∅ ?_);refine AD (BN b.typeIs BS
  (BL BS b.typeIs Jr ?_ (KG _ _)))
 show AQ _ _ (CO (.ref t)>>=_) _ _ s;refine AD (tupleItemsOf_ b ?_);refine AD (ET e ?_);refine AD (av8 f i g ?_);have a:(((sIx items.size 0 lo):Int)==0&&(1:Int)==1&&(sIx items.size items.size hi-sIx items.size 0 lo)==items.size)=AC:=by
  simp_all
 show AQ _ _ (if((sIx items.size 0 lo:Int)==0&&1==1&&(sIx items.size items.size hi-sIx items.size 0 lo)==items.size)=AC then _ else _) _ _ s;rw[if_pos a];refine AD ?_;refine AD (ET b.typeIs ?_);refine AL ?_;exact AD (Ef (AL ⟨_,rfl,AL h⟩))
end
end HT
namespace L2
open PySem PySem.Spec PyProof.Rows
section
variable {X:Cx}
abbrev c04(K:AM):V->Option Int->Option Int->Hp->VK->Prop:=λx lo hi H Q=>∃a xs,x=.ref a/\SqT K H a xs /\
 (HT.sIx xs.length 0 lo=0/\HT.sIx xs.length xs.length hi=xs.length)/\Q (.ref a) H
def b76:SlR X (c04 X.K):=by
 intro d s n H x v p o lo hi t Q I g m j i h;obtain⟨a,f,rfl,k,l,q⟩:=h;cases g;obtain⟨c,r,e,u⟩:=I.tuple k;have b:c.toArray.size=f.length:=by exact r.length.symm
 exact ⟨"tuple",_,BS.lookup,e.typeIs,HT.getItem_tuple_whole e m j i (by rw[b];exact l) ⟨.ref a,H,I,rfl,q⟩⟩
end
end L2
namespace Ek
open PySem PySem.Spec PyProof.Rows L2
section
variable [Tbs]
variable{H:Hp}
mutual
theorem bh6{K:AM}{H:Hp}(kt:Tbs.kt=AG):∀(d:D){v:V},IsD K H d v->NK.lit d.py=AC->HRd H d.py v
 |.int i,v,h,_=>h.int_inv
 |.str x,v,h,_=>h.str_inv
 |.tup ds,v,h,hl=>by
  obtain⟨a,vs,rfl,q,r⟩:=h.tup_invX;exact⟨a,vs,rfl,q.trk kt,a91 kt ds r hl⟩
 |.non,v,h,hl=>nomatch hl
 |.bl _,v,h,hl=>nomatch hl
 |.ref _,v,h,hl=>nomatch hl
 |.fn _,v,h,hl=>nomatch hl
 |.clo _ _ _ _,v,h,hl=>nomatch hl
 |.ktup _,v,h,hl=>nomatch hl
theorem a91{K:AM}{H:Hp}(kt:Tbs.kt=AG):∀(ds:List D){vs:List V},IsDs K H ds vs->NK.lits (D.pys ds)=AC->O5 H (D.pys ds) vs
 |[],vs,r,_=>r.inv_nil
 |d::ds,vs,r,hl=>by
  obtain⟨v,ws,rfl,i1,i2⟩:=r.inv_cons;have h':NK.lit d.py=AC/\NK.lits (D.pys ds)=AC:=by
   have:(NK.lit d.py&&NK.lits (D.pys ds))=AC:=hl;simpa using this
  exact⟨v,ws,rfl,bh6 kt d i1 h'.1,a91 kt ds i2 h'.2⟩
end
def a94{K}(d:Tbs.kt=AG){ks}{v}(h:IsD K H (.tup ks) v)(c:D.key (.tup ks)):∃b,v=.ref b/\F8 H (D.tup ks).py b:=by
 obtain⟨a,vs,rfl,_⟩:=h.tup_invX;exact⟨a,rfl,c.1,c.2,bh6 d _ h c.1⟩
section
variable {X:Cx} {a b o i v:AS} {ta tb to ti tv:DT} {pos apos pos':Pos}
theorem RelS.dtt{K}{st}(r:RelS K st H){a}{kvs}(h:st a=AA (.dtt kvs)):∃vs,H a=AA (.dT vs)/\IsPs K H kvs vs/\Tbs.kt=AG:=r.ob a _ h
def cn1{c:List Str}(e:c≠[]->Tbs.kt=AG):PE X (.Dict [] [] pos) (up X.K λenv st Q=>c≠[]/\∀p,st p=AE->Q (.ref p) (b0 st p (.dtt []))):=
 PE.imp bx9 λσ H Q q=>by
  obtain⟨env,st,g,f,b,a,d⟩:=q;exact λp hp=>d _ (.ref p) _ (b0 st p (.dtt [])) (Ev.newS hp) (.ref p) (b.putAny (TK.new hp) ⟨[],o0,.nil,e a.1⟩ (by simp_all)) (a.2 p (b.free hp))
def cs1(P:X.A.units+200<CG)(N:PE X a (up X.K ta))(m:PE X b (up X.K tb))(g:∀i p F,a≠.Call (.Name i p) [] [] F)(s:∀e p,b≠.Starred e p)(f:(apos.endLine==pos.line)=AC):
  PE X (.Call (.Attribute a "get" apos) [b] [] pos) (up X.K λenv st Q=>ta env st λx st1=>av0 x st1/\tb env st1 λy st2=>au4 x y st2 Q):=
 PE.imp (a58 ⋯ N m ⟨C7 g,by rw[n8 s];rfl,f,by rw[n8 s];rfl⟩) λσ H Q q=>by
  obtain⟨env,st,R,B,z,J,u⟩:=q;refine⟨env,st,_,B,z,J,λx d H1 st1 ev is rs h=>?_⟩;obtain⟨w,h⟩:=h;cases d<;>first|exact w.elim|skip
  rename_i p;obtain⟨G,L⟩:=w;obtain⟨vs,O,r,I⟩:=rs.dtt L;refine⟨p,is.ref_inv,.inr ⟨vs,.inl O⟩,env,st1,_,B.mono (ev.tk z),rs,h,λy e H2 st2 ev2 is2 rs2 c=>?_⟩;cases e<;>first|exact c.elim|skip
  rename_i ks;obtain⟨o,l,M,c⟩:=c;obtain⟨C,n,E,_⟩:=rs2.dtt l;obtain⟨b,rfl,m⟩:=a94 I is2 M;refine⟨_,F9.t n m,?_⟩
  rcases E.look (D.tup ks).py with⟨k,j⟩|⟨d,v,k,j,i⟩
  ·rw[j];rw[k]at c;exact u _ _ _ st2 (ev.trans ev2) .non rs2 c
  ·rw[j];rw[k]at c;exact u _ _ _ st2 (ev.trans ev2) i rs2 c
def TK.putT{K}{p}{u}{xs}(h:H p=AA (.dT xs)):TK K H (upd H p u):=TK.upd' (by simp_all) (by grind)
def bf8{ne}{v w}{d e}{H'}{st'}{Qd}{Q}(g:IsD X.K H' d v)(f:IsD X.K H' e w)(c:RelS X.K st' H')(b:U8 ne d e st' Qd)(h:w6 X.K st' H' Qd Q):∃a,v=.non/\w=.ref a/\H' a=AA (.dT [])/\Q (.bl ne) H':=by
 cases d<;>first|exact AU b|(cases e<;>first|exact AU b|skip)
 obtain⟨i,b⟩:=b;obtain⟨vs,j,r,k⟩:=c.dtt i;have:=Bd (by rw[<-r.len];rfl);subst this;exact⟨_,(by cases g;rfl),f.ref_inv,j,h.here (.bl _) c b⟩
def cu3{f:Bool}{c}(g:c=if f then .NotIn else .In)(m:X.A.units+200<CG)(j:PE X a (up X.K ta))(i:PE X b (up X.K tb))(h:∀l k p,b≠.Set l k p):PE X (.Compare a [c] [b] pos) (up X.K λenv st Q=>ta env st λx st1=>tb env st1 λy st2=>U8 f x y st2 Q):=by
 subst g;exact PE.imp (bb7 (be1 f) j i (af1 _ b h)) λσ H Q q=>up2 q λv w d e H' st' Qd i1 i2 rs ht=>bf8 i1 i2 rs ht
def cn9{g:Bool}{c}(j:c=if g then .NotIn else .In)(u:X.A.units+200<CG)(n:PE X a (up X.K ta))(m:PE X b (up X.K tb))(l:∀s k p,b≠.Set s k p):
  PT X (.Compare a [c] [b] pos) (upB X.K λenv st Q=>ta env st λx st1=>tb env st1 λy st2=>U8 g x y st2 λd st'=>∃k,d=.bl k/\Q k st'):=by
 subst j;refine PT.imp (ba5 (be1 g) n m (af1 _ b l)) λσ H Q q=>?_;obtain⟨env,st,t,r,o,h,i⟩:=q;refine up2 (Q:=λx H'=>∃k,x=.bl k/\Q k H') ⟨env,st,_,r,o,h,λv d H' st' ev is rs f=>?_⟩ λv w d e H' st' t i1 i2 rs h=>bf8 i1 i2 rs h;obtain⟨k,rfl,f⟩:=f;exact⟨k,is.bl_inv,i k H' st' ev rs f⟩
def cd5(q:X.A.units+200<CG)(j:PE X v (up X.K tv))(l:PE X o (up X.K to))(hi:PE X i (up X.K ti))(k:Cp v (AA (.Subscript o i pos')) pos.line X.env=pure AG):
  PS X (.Assign [.Subscript o i pos'] v pos) (upS X.K λF env st=>tv env st λd st1=>to env st1 λx st2=>ti env st2 λy st3=>as7 x y d st3 λst4=>F.nx env st4):=
 PS.imp (b81 ⋯ l hi j k) λF σ H⟨env,st,Fd,hE,hS,ht,hq⟩=>⟨env,st,_,hE,hS,ht,λw d H1 st1 ev1 is1 rs1 q1=>
  ⟨env,st1,_,hE.mono (ev1.tk hS),rs1,q1,λov x H2 st2 ev2 is2 rs2 q2=>⟨env,st2,_,(hE.mono (ev1.tk hS)).mono (ev2.tk rs1),rs2,q2,λiv y H3 st3 ev3 is3 rs3 c=>by
   cases x<;>cases y<;>first|exact c.elim|skip
   obtain⟨f,h,n,m,c⟩:=c;obtain⟨vs,e,r,g⟩:=rs3.dtt h;obtain⟨b,rfl,p⟩:=a94 g is3 n;have a:=(is1.mono (ev2.tk rs1)).mono (ev3.tk rs2);refine⟨_,_,(is2.mono (ev3.tk rs2)).ref_inv,ac0.t e p (by rw[<-r.len];exact m),?_⟩;exact hq.nx env σ _ _ (((ev1.trans ev2).trans ev3).trans (Ev.put h)) ((((hE.mono (ev1.tk hS)).mono (ev2.tk rs1)).mono (ev3.tk rs2)).mono (TK.putT e)) (rs3.putAny (ob:=.dtt (X5 f _ d)) (TK.putT e) ⟨_,o0,(r.put a _).mono (TK.putT e),g⟩ (by grind)) c⟩⟩⟩
def bv8{ds}{lo hi}(h:HT.sIx ds.length 0 lo=0/\HT.sIx ds.length ds.length hi=ds.length):A8 ds lo hi=ds:=by
 unfold A8;rw[h.1,h.2];simp
def cs6{lo hi}{tl th}{p2}(s:PE X a (up X.K ta))(n:PO X lo (upO X.K tl))(o:PO X hi (upO X.K th)):
  PE X (.Subscript a (.Slice lo hi AE p2) pos) (up X.K λenv st Q=>ta env st λx st1=>tl env st1 λl st2=>th env st2 λh st3=>ai6 x l h st3 Q):=
 PE.imp (a87 (bg0.or b76) s n o) λσ H Q q=>by
  obtain⟨env,st,t,i,g,k,m⟩:=q;refine⟨env,st,_,i,g,k,λv d H1 st1 ev1 is1 rs1 q1=>⟨env,st1,_,i.mono (ev1.tk g),rs1,q1,λl H2 st2 ev2 rs2 q2=>⟨env,st2,_,(i.mono (ev1.tk g)).mono (ev2.tk rs1),rs2,q2,λh H3 st3 ev3 rs3 q3=>?_⟩⟩⟩;have c:=(is1.mono (ev2.tk rs1)).mono (ev3.tk rs2);have b:=((m.after ev1).after ev2).after ev3;cases d<;>first|exact AU q3|skip
  rename_i ds;obtain⟨p,vs,rfl,f,r⟩:=c.tup_invX
  by_cases e:HT.sIx ds.length 0 l=0/\HT.sIx ds.length ds.length h=ds.length
  ·have j:t (.tup (A8 ds l h)) st3:=q3;rw[bv8 e]at j;exact .inr ⟨p,vs,rfl,f.sqt,(r.len▸e),b.here (IsD.mk f r) rs3 j⟩
  ·exact .inl ⟨p,vs,rfl,f.sqt,r.len▸e,b.newT rs3 (ar5 r l h) q3⟩
end
end
section
variable [Tbs]
section
variable {X:Cx} {a b c:AS} {ta tb tc:DT} {pos apos p:Pos}
structure IscOk(K:AM)(c:Str)(Ca:AI):Prop where
 at_:Ae K AK c=AA (AA (.ref Ca))
 cl:Cls K Ca
 ha:Av K (.ref Ca) "__class__"=AA (AA (.builtin "object.__class__"))
 hn:Er K (.builtin "object.__class__") "__get__"=AA (AA (.builtin "getset_descriptor.__get__"))
 htk:IT K (.builtin "object.__class__")=AA AC
 hm:Hd K Ca (.type "object")=AA AC
 no:Cy K (.type "tuple") (.ref Ca)=AA AG
 yes:Cy K (.ref Ca) (.ref Ca)=AA AC
end
end
section
variable [Tbs]
section
variable {X:Cx} {pos:Pos} {pins:List (AI×Obj)} {σ:L2.St} {H:Hp} {s:AJ}
structure NvOk(X:Cx)(i:Nat)(x:Str):Prop where
 at_:X.N[i]?=AA x
 vis:Vis X.env.scope x
 db:(x==("__debug__":Str))=AG
 cd:(x==("__classdict__":Str))=AG
structure NwOk(X:Cx)(i:Nat)(x:Str):Prop where
 at_:X.N[i]?=AA x
 loc:Loc X.env.scope x
 st:X.fn x=AC\/X.env.scope.names.lookup x=AA .local
def b70{K}{H H'}{env}{σ}{a}{ie ic}(r:RelE K H env σ)(k:TK K H H')(f:ie≠ic):RelE K H' ((env.set ie AE).set ic (AA (.ref a))) (((σ.set ie (AA (.ref a))).set ic (AA (.ref a))).set ie AE):=⟨by simp[r.len],λj d h=>by
 have l:=r.len
 by_cases b:j=ie
 ·subst b;rw[Br (Ao f),Fb]at h;simp only[if_true]at h
  split at h<;>cases h
 rw[Br (Ao b)]
 by_cases c:j=ic
 ·subst c
  by_cases e:j<env.length
  ·rw[Dc (by simpa using e)]at h;cases h;exact⟨_,Dc (by simp_all),.ref a⟩
  ·rw[Bl (by simpa using e)]at h;cases h
 ·rw[Br (Ao c),Br (Ao b)]at h;obtain⟨v,i,g⟩:=r.at' j d h;exact⟨v,by rw[Br (Ao c),Br (Ao b)];exact i,g.mono k⟩⟩
def b12{CX}{c:AF->AJ->Prop}{f xt xu xi}{sp}{ti ui i}{p p1 p2 py pc pa}{x y}{v1 v2}{D}{Qd}(F:FnT X CX f sp)(J:Gl X f)(n:(f==("__debug__":Str))=AG)(P:X.N.Nodup)
  (l:NvOk X ti xt) (j:NvOk X ui xu) (m:NwOk X i xi) (O:z5 H)
  (I:Inv (X.wish c) pins σ H s) (T:σ[ti]?=AA (AA v1)) (S:σ[ui]?=AA (AA v2)) (t:IsD X.K H x v1) (o:IsD X.K H y v2) (u:∀h,Inv (X.wish c) pins σ H h->∀e s',CX X.stack (y4 H) h E0 e s'->c e s') (q:sp [x,y] (λ_=>AE) Qd)
  (C:∀v d g b,Bh H g->z5 g->IsD X.K g d v->Qd d b->D.nx (σ.set i (AA v)) (mrg H g)):AQ (model X.prog X.w) X.A (execs [.Assign [.Name xi py] (.Call (.Name f p) [.Name xt p1,.Name xu p2] [] pc) pa] X.env) (SP (X.wish c) pins D) c s:=by
 obtain⟨k,a,fd,V,U,B,E,G,L⟩:=F.ex;have R:AQ (model X.prog X.w) X.A (eval (.Call (.Name f p) [.Name xt p1,.Name xu p2] [] pc) X.env) (EP (X.wish c) pins σ λv=>D.nx (σ.set i (AA v))) c s:=by
  refine BV (E5 (X:=X.wish c) I J E ?_ n);have M:PA (X.wish c) [.Name xt p1,.Name xu p2] (M2 (ac4 ti) (M2 (ac4 ui) V0)):=J8 (M0 l.at_ l.vis l.db l.cd) (J8 (M0 j.at_ j.vis j.db j.cd) W2 rfl) rfl;refine DD I.ok.mod.kin G (thn (M pc pins s σ H (λvs H1=>vs=[v1,v2]/\H1=H) I ⟨_,T,_,S,rfl,rfl⟩) λus h⟨vs,H1,I1,r,z1,z2⟩=>⟨I1.kIn,?_⟩) rfl rfl;subst z1 z2;exact bq2 (X:=X.wish c) (Q0:=λv g=>∃d b,z5 g/\IsD X.K g d v/\Qd d b) U B L I1 r ⟨[x,y],_,Qd,.cons (t.wk Wk.sel) (.cons (o.wk Wk.sel) .nil),RelS.none0 O,q,λv d g b _ is rs q=>⟨d,b,rs.tb,is,q⟩⟩ (λe s'=>u h I1 e s') λv g s' un⟨d,b,tb,is,q⟩=>C v d g b (Bh.of I1 un) tb is q
 refine HU ?_;refine BJ (KZ (Q:=λf h=>f=.next/\SP (X.wish c) pins D .next h) (thn R λv h⟨y,H1,I1,r1,q1⟩=>V4 (X:=X.wish c) I1 P m.at_ m.loc r1 (λs2 I2=>⟨rfl,_,H1,I2,q1⟩) m.st) rfl) (λfl h q=>?_) λ_ _ z=>z;obtain⟨rfl,q⟩:=q;exact Ci q
def ce1{Z:Sg}{f P O Q xc E:Str}{ti ui i ic Y:Nat}{q1 q2 q3 q4 q5 q6 u1 u2 u3 u4 u5:Pos}(S:FrS X Z.X)(hN:X.N.Nodup)(hT:Z.C "!ix"≠[]->TryOk X)
  (nt:NvOk X ti P) (nu:NvOk X ui O) (ni:NwOk X i Q) (W:NwOk X ic xc) (V:NvOk X Y E) (le:X.env.scope.names.lookup E=AA .local) (hec:Y≠ic) (gE:Gl X "EvenError") (hg:Gl X f) (hdb:(f==("__debug__":Str))=AG)
  (hF:Z.F f=AC->FnT X (CXz X Z.X) f (Z.Phi f)/\FnT X (CXz X AC) f (Z.T f)) :
  PS X (.Try [.Assign [.Name Q q1] (.Call (.Name f q2) [.Name P q3,.Name O q4] [] q5) q6]
   [.ExceptHandler (AA (.Name "EvenError" u1)) (AA E) [.Assign [.Name xc u2] (.Name E u3) u4] u5] [] [] pos) (upS X.K (wpS Z (.try1 f ti ui i ic Y))):=λpins s σ H D I q=>by
 obtain⟨env,st,Fd,G,m,⟨hix,hzx,hZ,x,y,e1,e2,t⟩,hq⟩:=q;obtain⟨C,Ce,hn,hm,hx⟩:=(hT hix).ex;obtain⟨v1,s1,i1⟩:=G.at' _ _ e1;obtain⟨v2,s2,i2⟩:=G.at' _ _ e2;obtain⟨F1,F2⟩:=hF hZ;have nx:∀{r:DK},(∀d g,r d g->Fd.nx (env.set i (AA d)) st)->∀v d l g,Bh H l->z5 l->IsD X.K l d v->r d g->D.nx (σ.set i (AA v)) (mrg H l):=λ{r}hQ v d l g B U is q=>
  hq.nx _ _ _ st B.ev ((G.mono ag8).set (is.wk B.wk) i) ⟨λa o e=>(m.ob a o e).stay ag8 (bg3 m e),B.tabs m.tb U⟩ (hQ d g q)
 have n:∀(EE:AF->AJ->Prop)(CX:CXT)(sp:Spec)(r:DK),FnT X CX f sp->sp [x,y] (λ_=>AE) r->(∀d g,r d g->Fd.nx (env.set i (AA d)) st)->(∀s1,Inv (X.wish EE) pins σ H s1->∀e s',CX X.stack (y4 H) s1 E0 e s'->EE e s') ->
   AQ (model X.prog X.w) X.A (execs [.Assign [.Name Q q1] (.Call (.Name f q2) [.Name P q3,.Name O q4] [] q5) q6] X.env) (λfl s1=>fl=.next/\SP X pins D .next s1) EE s:=λEE CX sp r F q hQ hx=>by
  refine thn (b12 (D:={nx:=D.nx,rt:=λ_ _=>False,bk:=λ_ _=>False,ct:=λ_ _=>False}) F hg hdb hN nt nu ni m.tb (I.wish EE) s1 s2 i1 i2 hx q (nx hQ)) λfl s2 h2=>?_;cases fl with
  |next=>obtain⟨M,l,J,q⟩:=h2;exact⟨rfl,M,l,J.unwish,q⟩
  |brk=>obtain⟨_,_,_,z⟩:=h2;exact z.elim
  |cont=>obtain⟨_,_,_,z⟩:=h2;exact z.elim
  |ret u=>obtain⟨_,_,_,_,_,z⟩:=h2;exact z.elim
 refine wpAny_Try_except ?_
 rcases t with t|⟨t,hh2⟩
 ·rw[hzx]at F1;refine BJ (n (λ_ _=>False) _ _ _ F1 t (λ_ _ q=>q) λs1 _ e s' c=>absurd c.1 AH) (λfl s1 p=>?_) λ_ _ z=>z.elim;obtain⟨rfl,p⟩:=p;exact Ci p
 ·refine BJ (n (λe s'=>∃s1,Inv X pins σ H s1/\CXe X.prog X.w X.K "NoKind" z5 X.stack (y4 H) s1 E0 e s') _ _ _ F2 t (λ_ _ q=>q) λs1 J e s' c=>⟨s1,J.unwish,c.2⟩) (λfl s1 p=>?_) λe s'⟨s1,J,c⟩=>?_
  ·obtain⟨rfl,p⟩:=p;exact Ci p
  ·refine b14 S.stk S.fr hN V.at_ le V.db V.cd W.at_ W.loc W.st gE hm ∅ hn hx J c λa l ha ha' un U=>?_;have B:=(Bh.of J un).put (o:=M5 a C) ha;have R:z5 (upd l a (M5 a C)):=U.stay (K:=X.K) (TK.new ha') (a76 ha');refine hq.nx _ _ _ (b0 st a (.exc "NoKind")) (λb o h k=>?_) (b70 G ag8 hec) ⟨λb o e=>?_,B.tabs m.tb R⟩ (hh2 a (m.free ha))
   ·obtain⟨z,_⟩:=B.ev (st:=st) b o h k;exact⟨z,by rw[B6 (o7 h ha)];exact k⟩
   ·by_cases hb:b=a
    ·subst hb;rw[f7]at e;cases e;exact⟨C,(W8 ha).trans o0,hn⟩
    ·rw[B6 hb]at e;exact(m.ob b o e).stay ag8 (bg3 m e)
end
end
end Ek
namespace PySem
section
variable {prog:AZ} {w:At} {A:BG} {E:AF->AJ->Prop} {h:Au} {g:Array JW} {d:Drawn} {t:Nat} {os:OsState}
variable {nm q:Str} {C N fI:AI} {bs bm bmB bmN j7:List AF} {hdct:Bool} {sn:List Str} {sub:List AF} {ab:Bool} {col:Option Bool} {dd:Option AI} {k0 k1 k2 k3 k5:Option AF} {B Bn newId nid initId inN:String} {mN:Str->Option AF} {oI:Obj}
def bm9(k:HJ Bn newId inN bmN)(f:bmB.contains (.type Bn)=AC)(F:HJ B nid initId bmB)(T:OwnTail h bmB bm){Q:Fin->AJ->Prop}(c:h.get? C=AA (EJ nm q C N bs bm hdct sn sub ab col dd k0 k1 k2 k3 k5 newId))(m:h.Ns N mN)(hi:mN "__init__"=AA (.ref fI))(s:h.get? fI=AA oI)(u:oI.cls=.type "function")(n:j7.length<=sizeLine)
  (l:∀h' e,HP h h' e (.ref C) j7->AQ (model prog w) A (call (.ref fI) (.ref e::j7)) (λr s'=>r=.none/\Q (.done (.ret (.ref e))) s') E ⟨h',g,d,t,os⟩) :
  AQ (model prog w) A (CT.«type.__call__» ⟨.ref C::j7,[]⟩) Q E ⟨h,g,d,t,os⟩:=by
 repeat (first|rfl|with_reducible refine wpAny_madeBy_exc c ?_|wp_step)
 refine codeAny_call_builtin_code (Iw _ k.quiet) (wpAny_check_new_subU k f T c (codeAny_exc_new_subU k f F T c (show AQ _ _ _ _ _ _ from ?_) n));have a:∀{b:AI}{o:Obj},h.get? b=AA o->((h.push {cls:=.type "tuple",data:=.seq j7.toArray}).push {cls:=.ref C,data:=.fields #[.ref h.objs.size,.none,.none,.none,.bool AG,.none]}).get? b=AA o:=λe=>AN _ (AN _ e);have i:=let⟨o,y,z,e,r⟩:=m;(⟨o,y,z,a e,r⟩:Heap.Ns _ N mN);have p:=show((h.push {cls:=.type "tuple",data:=.seq j7.toArray}).push {cls:=.ref C,data:=.fields #[.ref h.objs.size,.none,.none,.none,.bool AG,.none]}).get? (h.objs.size+1)=AA {cls:=.ref C,data:=.fields #[.ref h.objs.size,.none,.none,.none,.bool AG,.none]} by heap_get
 have j:(Al C::bm).contains (.ref C)=AC:=by simp
 repeat (first|rfl|(with_reducible refine wpAny_isSubtype_exc (a c) ?_;rw[j])|wp_step)
 refine show AQ _ _ (Du (.ref C) _) _ _ _ from wpAny_typeLookup_tail (a c) i (T.keeps λb o e=>a e) F.mroIs F.init.lookup ?_
 rw[hi];refine BO (AD ?_);refine AD (ET (T:="function") ⟨_,a s,u⟩ ?_);refine AL (AD (BJ (l _ (h.objs.size+1) ⟨λb o hb=>a hb,Fk (Hr _),h.objs.size,p,Fk (AX _),AN _ (JN rfl rfl)⟩) (λr s' hr=>?_) λ_ _ x=>x));obtain⟨rfl,v⟩:=hr
 wp_walk
 exact v
def bn5(l:HJ Bn newId inN bmN)(b:bmB.contains (.type Bn)=AC)(F:HJ B nid initId bmB)(T:OwnTail h bmB bm){Q}(a:h.get? C=AA (EJ nm q C N bs bm hdct sn sub ab col dd k0 k1 k2 k3 k5 newId))(f:h.Ns N mN)(hi:mN "__init__"=AA (.ref fI))(j:h.get? fI=AA oI)(k:oI.cls=.type "function")(i:j7.length<=sizeLine)
  (c:∀h' e,HP h h' e (.ref C) j7->AQ (model prog w) (A.under (.builtin "type.__call__" ⟨.ref C::j7,[]⟩)) (call (.ref fI) (.ref e::j7)) (λr s'=>r=.none/\Q (.ref e) s') E ⟨h',g,d,t,os⟩) :
  AQ (model prog w) A (call (.ref C) j7) Q E ⟨h,g,d,t,os⟩:=by
 have o:=tc_lookup;have n:=tc_bind (.ref C);have m:(⟨h,g,d,t,os⟩:AJ).TypeIs (.ref C) "type":=⟨_,a,rfl⟩;refine DZ (Lc ((?_)))
 repeat (any_goals (first|assumption|rfl|wp_step))
 exact⟨rfl,codeAny_call_builtin_at (Iw _ (by decide+kernel)) entry_typeCall (wpAny_check_type_call_sub a (bm9 l b F T a f hi j k i c))⟩
end
end PySem
namespace L2
open PySem PySem.Spec PyProof.Rows
section
variable {X:Cx} {pins:List (AI×Obj)} {σ:St} {H:Hp} {s:AJ} {a:AI} {o:HO} {h':Au}
def Inv.hnone(I:Inv X pins σ H s)(e:s.heap.get? a=AE):H a=AE:=by
 cases q:H a with
 |none=>rfl
 |some o=>obtain⟨u,b⟩:=(I.hok a o q).ex;rw[e]at b;cases b
def Inv.grow(I:Inv X pins σ H s)(f:∀b o,s.heap.get? b=AA o->h'.get? b=AA o)(j:s.heap.get? a=AE)(i:l8 X.prog X.w (upd H a o) h' a o):Inv X pins σ (upd H a o) {s with heap:=h'}:=by
 have k:=I.hnone j;have h:∀{b u},s.heap.get? b=AA u->b≠a:=λ{b u}e z=>by grind
 have d:∀{b}{u},H b=AA u->upd H a o b=AA u:=λ{b u}e=>(f9 (o7 e k)▸e)
 refine I.call' rfl ⟨λb o e _ _ _=>f b o e,λb o e _ _ _=>⟨o.slots,f b o e⟩,λb u e n _=>f9 (h e)▸n,λb o e _=>⟨o,f b o e⟩,λb xs=>d,λb o u=>d,λb ps e=>⟨#[],d e⟩⟩ (λb u e=>?_) I.bare λb z=>absurd z AW
 by_cases g:b=a
 ·subst g;rw[o0]at e;cases e;exact i
 ·rw[f9 g]at e;exact(I.hok b u e).stay (λc v _=>f c v) (λc=>d) λc xs=>d
def bb3{P}{w}{H}{h}{C}{ob}{vs}(e:h.get? a=AA ob)(c:ob.cls=.ref C)(d:ob.dict=AE)(f:ob.data=.fields vs):l8 P w H h a (M5 a C):=
 ⟨⟨ob,e,c,d,vs,f⟩,⟨ob,e⟩,λh1 h2⟨o,e,r⟩k=>⟨o,k o e,r⟩⟩
end
end L2
namespace Ek
open PySem PySem.Spec PyProof.Rows L2
section
variable [Tbs]
section
variable {X:Cx} {pos p:Pos}
structure MxOk(K:AM)(mg:Str->Option AF)(c:Str):Prop where
 ex:∃C,Ae K AK c=AA (AA (.ref C))/\mg c=AA (.ref C)/\GC K C vB "ValueError.__new__"=AC/\BQ K (.ref C)=AC
def cm1{c:Str}(M:MxOk X.K X.mg c)(o:Gl X c)(d:(c==("__debug__":Str))=AG):PE X (.Call (.Name c p) [] [] pos) (up X.K λ_ st Q=>∀p,st p=AE->Q (.ref p) (b0 st p (.exc c))):=λpins s σ H Q I q=>by
 obtain⟨env,st,A,y,f,i,j⟩:=q;obtain⟨C,k,l,h,n⟩:=M.ex;refine BV (E5 I o l ?_ d);refine IN I.kIn n ?_;obtain⟨z,N,g,w,bs,hdct,sn,sub,ab,col,dd,k0,k1,k2,k3,k5,x,v,u,b,T⟩:=bb1 I.kIn h;refine wpAny_call_exc_subU PySem.F.excBase_ValueError ∅ PySem.F.excBase_ValueError T v u b (λh' e m=>?_);obtain⟨t,r,_,_⟩:=m.there;have a:=I.hnone m.new;exact⟨.ref e,_,I.grow m.keeps m.new (bb3 r rfl rfl rfl),rfl,j _ _ _ (b0 st e (.exc c)) (Ev.newS a) (.ref e) (f.putAny (ob:=.exc c) (TK.new a) ⟨C,o0,k⟩ (by rw[a];exact λ_=>nofun)) (i e (f.free a))⟩
end
end
section
variable [Tbs]
variable{x:AI}
section
variable {X:Cx} {pos:Pos}
structure XcOk(K:AM)(C:AI):Prop where
 c1:(Hi K C).isSome=AC
 c2:Av K (.ref C) "__getattribute__"=AA (AA (.builtin "BaseException.__getattribute__"))
 c3:Av K (.ref C) "__getattr__"=AA AE
 c4:Hd K C (.type "BaseException")=AA AC
 c5:Av K (.ref C) "__class__"=AA (AA (.builtin "object.__class__"))
 c6:Er K (.builtin "object.__class__") "__get__"=AA (AA (.builtin "getset_descriptor.__get__"))
 c7:IT K (.builtin "object.__class__")=AA AC
 c8:Hd K C (.type "object")=AA AC
open PySem.W in
def bv9{prog:AZ}{w:At}{A:BG}{E:AF->AJ->Prop}{s:AJ}{K:Frag}{D:AI}{ox:Obj}{odo:Option Obj}{name:Str}{g a:AF}{Q:Option AF->AJ->Prop}
  (X:K.In s.heap) (I:InstAt s.heap x ox D odo) (hga:KN K (.ref D) "__getattribute__"=AA (AA (.builtin "BaseException.__getattribute__"))) (hk:KN K (.ref D) "__getattr__"=AA AE)
  (hb:MB (model prog w) s.heap (isSubtype (.ref D) (.type "BaseException")) AC)
  (hf:findObj K D odo name=AA (.bind g a))
  (h:AQ (model prog w) A.in1 (call g [a,.ref x,.ref D])
   (λv s'=>AQ (model prog w) A (handedOut v) (λv s''=>Q (AA v) s'') (λ_ _=>False) s') (λ_ _=>False) {s with toks:=s.toks+1}) :
  AQ (model prog w) A (Jk (.ref x) name) Q E s:=by
 obtain⟨hh,gg,d,t,os⟩:=s;have L0:=I.type (M:=model prog w);have L1:=EV (M:=model prog w) X hga;have L2:=EV (M:=model prog w) X hk;have L3:=looks_find (M:=model prog w) X I hf;have LI:MB (model prog w) hh (Gr (.ref x) (.type "BaseException")) AC:=L0.andThen hb;have hk:builtinKind "BaseException.__getattribute__"=AA .slot:=by decide+kernel
 have hsplit:splitId "BaseException.__getattribute__"=AA ("BaseException","__getattribute__"):=by decide+kernel
 have hbi:Jj (.builtin "BaseException.__getattribute__") (.ref x)=pure (.builtin "BaseException.__getattribute__",[.ref x]):=by kernel_rfl
 unfold Jk getAttrBy? LO;refine AD (wpAny_mkText (AD (Cr (BO (AD (L0.at (AD (L1.at ?_))))))));show AQ _ _ (Fp _ _ _ _ _ _) _ _ _;unfold Fp;refine AD ?_;show AQ _ _ (Du (.ref D) "__getattr__") _ _ _;refine L2.at ?_;refine AD (Cr (BO ?_));show AQ _ _ (GW _ _ _) _ _ _;unfold GW;rw[hbi];refine AD (AL ?_);refine DZ (EK (by decide+kernel) Kk ?_);have chk:∀{Q:Unit->AJ->Prop}{E' A'},Q () ⟨hh,gg,d,t+1,os⟩->AQ (model prog w) A' (Dv "BaseException.__getattribute__" ⟨[.ref x,.str name t],[]⟩) Q E' ⟨hh,gg,d,t+1,os⟩:=λhq=>by
  have ha:=LP (.ref x) (.str name t);simp only[Dv,hk,hsplit];refine AD (LI.at ?_)
  repeat (first|exact hq|wp_step)
 refine chk ?_;unfold CT.«object.__getattribute__»;refine AD (AL (AD (AL (AD (L0.at (AD (L3.at ?_)))))));show AQ _ _ (holding [a] (call g [a,.ref x,.ref D])>>=ret) _ _ _;refine AD (BO (BJ h (λv s' z=>AL ?_) λ_ _ z=>z.elim));exact BJ z (λv s'' hv=>AL hv) (λ_ _ z=>z.elim)
def by7{K:AM}{C:AI}(c:XcOk K C):W.KitX K (.ref x) (.ref C) (λh=>∃o f,Ku h x o C f):=by
 obtain⟨m,a⟩:=BC.mp c.c1;have g:∃j d' d b,K.lookup C=AA ⟨j,d',.cls d,b⟩:=by
  unfold Hi at a
  split at a
  ·exact⟨_,_,_,_,by assumption⟩
  ·cases a
 obtain⟨j,d',d,b,i⟩:=g;refine⟨λM h _ p=>p.choose_spec.choose_spec.type,λM h X _=>?_,λh tp dd its n sl X htp=>Bool.eq_false_iff.mpr λq=>?_,λ{prog w A E Q s}X p k=>?_⟩
 ·intro u r t s' k q;exact AD (Ln (k _ _ (X _ _ i)) (AL q))
 ·have e:C=tp:=Value.ref.inj (beq_iff_eq.mp q);subst e;rw[X _ _ i]at htp;cases htp
 ·obtain⟨o,f,I⟩:=p;have l:IV K C f "__class__"=AA (.bind (.builtin "getset_descriptor.__get__") (.builtin "object.__class__")):=by
   unfold IV;rw[a,Eb,c.c5,Eb];simp[c.c6,c.c7]
  exact bv9 X I c.c2 c.c3 (W.looks_mroIn X c.c4) l (DZ (W.class_get (s:={s with toks:=s.toks+1}) X I c.c8 (W.handed_on rfl k)))
def b06{K}{P}{w}{H}{h}{st}{k}(l:RelS K st H)(a:HOk P w H h)(e:exK st x k):∃C,H x≠AE/\Ae K AK k=AA (AA (.ref C))/\∃o b,Ku h x o C b:=by
 have m:∀{o}{vs},o.data=.fields vs->W.notCls o=AC:=λ{o vs}f=>by obtain⟨y,d',v,t⟩:=o;cases f;rfl
 rcases e with e|⟨n,e⟩
 ·obtain⟨C,d,c⟩:=l.ob x _ e;obtain⟨⟨o,j,i,p,vs,g⟩,_,_⟩:=(a x _ d);exact⟨C,by grind,c,o,AE,j,i,m g,by simp_all⟩
 ·obtain⟨C,s,b,u,tk,d,c,q,_,_⟩:=l.ob x _ e;obtain⟨⟨o,j,i,p,vs,g⟩,_,_⟩:=(a x _ d);have r:=(a s _ q).1;exact⟨C,by grind,c,o,AA b,j,i,m g,p▸r⟩
abbrev Q5(K:AM)(xk:List Str)(c:Str)(cv:AF):Prop:=∀k∈xk,∀C,Ae K AK k=AA (AA (.ref C))->XcOk K C/\Cy K (.ref C) cv=AA (C6 k c)
def bg1{a}{ta}{p p2}{c}{xk}{cv}{u}(K:Q5 X.K xk c u)(y:∀m,i7 cv m->m=u)(h:PE X (.Name c p2) (tC cv))(F:Gl X "isinstance")(E:X.mg "isinstance"=AE)(G:PE X a (up X.K ta))(n:∀e p,a≠.Starred e p):
  PE X (.Call (.Name "isinstance" p) [a,.Name c p2] [] pos) (up X.K λenv st Q=>ta env st λx st1=>∃p k,x=.ref p/\exK st1 p k/\k∈xk/\Q (.bl (C6 k c)) st1):=by
 intro b s l H Q I q;obtain⟨env,st,R,M,J,A,B⟩:=q;have j:=J8 G (J8 h W2 rfl) (n8 n);refine af3 (r:=λvs H Q=>∃x k st,vs=[.ref x,cv]/\RelS X.K st H/\exK st x k/\k∈xk/\Q (.bl (C6 k c)) H) ?_ F E ax3 j ∅ ∅ (n8 n) rfl b s l H Q I ?_
 ·intro b s l H vs us Q I r ⟨x,k,st,e,f,N,i,q⟩;subst e;obtain⟨P,O,rfl,w,v⟩:=r.two;cases y _ v;cases w;obtain⟨C,_,D,L⟩:=b06 f I.hok N;obtain⟨t,o⟩:=K k i C D;exact CP (by7 t) I.kIn L o (λz=>nomatch z) λtk=>⟨.bl _,H,I.tok _,rfl,q⟩
 ·refine⟨env,st,_,M,J,A,λv d H' st' ev is f g=>?_⟩;obtain⟨x,k,rfl,e,i,g⟩:=g;exact⟨x,k,st',by rw[is.ref_inv],f,e,i,(B.after ev).here (.bl _) f g⟩
end
end
section
variable [Tbs]
section
variable {X:Cx} {pos:Pos}
open PySem.W in
def bz2{prog:AZ}{w:At}{A:BG}{E:AF->AJ->Prop}{s:AJ}{K:Frag}{x D:AI}{ox:Obj}{odo:Option Obj}{name:Str}{v:AF}{ex:Bool}{Q:AF->AJ->Prop}
  (X:K.In s.heap) (I:InstAt s.heap x ox D odo) (c:XcOk K D) (hf:findObj K D odo name=AA (.value v)) (hv:handedIn v=AC) (h:Q v {s with toks:=s.toks+1}):AQ (model prog w) A (JC (.ref x) name ex) Q E s:=by
 obtain⟨hh,gg,d,t,os⟩:=s;have L0:=I.type (M:=model prog w);have L1:=EV (M:=model prog w) X c.c2;have L2:=EV (M:=model prog w) X c.c3;have L3:=looks_find (M:=model prog w) X I hf;have LI:MB (model prog w) hh (Gr (.ref x) (.type "BaseException")) AC:=L0.andThen (looks_mroIn X c.c4);have hk:builtinKind "BaseException.__getattribute__"=AA .slot:=by decide+kernel
 have hsplit:splitId "BaseException.__getattribute__"=AA ("BaseException","__getattribute__"):=by decide+kernel
 have hbi:Jj (.builtin "BaseException.__getattribute__") (.ref x)=pure (.builtin "BaseException.__getattribute__",[.ref x]):=by kernel_rfl
 have hx0:(ex&&onTheHeap (HR "BaseException.__getattribute__"))=AG:=by cases ex<;>rfl
 unfold JC LO;refine AD (wpAny_mkText (BO (AD (L0.at (AD (L1.at ?_))))));show AQ _ _ (Fp _ _ _ _ _ _) _ _ _;unfold Fp;refine AD (show AQ _ _ (Du (.ref D) "__getattr__") _ _ _ from L2.at ?_);refine AD (Cr (BO ?_));unfold callGetattribute;rw[hx0];show AQ _ _ (GW _ _ _) _ _ _;unfold GW;rw[hbi];refine AD (AL (DZ (EK (by decide+kernel) Kk ?_)));have chk:∀{Q:Unit->AJ->Prop}{E' A'},Q () ⟨hh,gg,d,t+1,os⟩->AQ (model prog w) A' (Dv "BaseException.__getattribute__" ⟨[.ref x,.str name t],[]⟩) Q E' ⟨hh,gg,d,t+1,os⟩:=λhq=>by
  have ha:=LP (.ref x) (.str name t);simp only[Dv,hk,hsplit];refine AD (LI.at ?_)
  repeat (first|exact hq|wp_step)
 refine chk ?_;unfold CT.«object.__getattribute__»;refine AD (AL (AD (AL (AD (L0.at (AD (L3.at (AL ?_))))))));exact handed_on hv h
structure NsX(K:AM)(C:AI):Prop where
 x:XcOk K C
 hd:∃cd,Hi K C=AA cd/\cd.hasDict=AC
 no:Av K (.ref C) "at"=AA AE
def cr6{a}{ta}(L:∀C,Ae X.K AK "NoStep"=AA (AA (.ref C))->NsX X.K C)(G:PE X a (up X.K ta))(c:CN a "at" X.env (eval a X.env)=eval a X.env):
  PE X (.Attribute a "at" pos) (up X.K λenv st Q=>ta env st λx st1=>∃p n,x=.ref p/\st1 p=AA (.exa "NoStep" n)/\Q (.int n) st1):=by
 intro e s r H Q I q;obtain⟨env,st,V,N,J,z,A⟩:=q;refine bc3 c (thn (G e s r H (λv H'=>∃p n b,v=.ref p/\RelS X.K b H'/\Ev st H b H'/\b p=AA (.exa "NoStep" n)/\V (.int n) b) I ⟨env,st,_,N,J,z,λv d H' b l is f q1=>?_⟩) λu s1 z47=>?_)
 ·obtain⟨p,n,rfl,k,j⟩:=q1;exact⟨p,n,b,is.ref_inv,f,l,k,j⟩
 ·obtain⟨x,Y,g,t,p,n,b,T,f,l,S,w⟩:=z47;subst T;obtain rfl:u=Al p:=t;obtain⟨C,U,y,u,tk,M,B,F,_,D⟩:=f.ob p _ S;obtain⟨⟨o,k,j,R,vs,P⟩,_,_⟩:=((g.hok p _ M));have O:=(g.hok U _ F).1;have m:=L C B;obtain⟨cd,i,h⟩:=m.hd;have E:IV X.K C (AA y) "at"=AA (.value (.int n tk)):=by
   unfold IV;rw[i,m.no,Eb];simp[W.ownOf,h,D]
  refine bz2 g.kIn ⟨k,j,by obtain⟨c',d',dt,Z⟩:=o;cases P;rfl,R▸O⟩ m.x E rfl ?_;exact⟨.int n,Y,g.tok _,⟨_,rfl⟩,(A.after l).here (.int n) f w⟩
end
end
end Ek
namespace PySem
open Builtin Builtin.ObjectAttr PySem.W
def OwnTail.refuse{h}{bmB tl}(T:OwnTail h bmB tl){self}(c:refuseLoop self "__setattr__" bmB=pure ()):refuseLoop self "__setattr__" tl=pure ():=by
 induction T with
 |base=>exact c
 |own _ _ _ _ d=>rwa[MC]
section
variable {prog:AZ} {w:At} {A:BG} {E:AF->AJ->Prop} {h:Au} {g:Array JW} {d:Drawn} {t:Nat} {os:OsState} {K:Frag}
variable {nm q:Str} {C N x:AI} {bs bm:List AF} {sn:List Str} {sub:List AF} {ab:Bool} {col:Option Bool} {dd:Option AI} {k0 k1 k2 k3 k5:Option AF} {newId:String} {name:Str} {v:AF} {o:Obj}
def bv1{tk:Tok}{Q:Fin->AJ->Prop}(X:K.In h)(U:h.get? C=AA (EJ nm q C N bs bm AC sn sub ab col dd k0 k1 k2 k3 k5 newId))(T:OwnTail h L2.vB bm)(k:h.get? x=AA o)(S:o.cls=.ref C)(y:∀c,o.data≠.cls c)(F:o.dict=AE)(u:KN K (.ref C) name=AA AE)
  (R:∀h' m r,(∀b ob,b≠x->h.get? b=AA ob->h'.get? b=AA ob)->h'.get? x=AA {o with dict:=AA h.objs.size}->h'.get? h.objs.size=AA r->lookIn name r=AA (AA v)->Q (.done (.ret .none)) ⟨h',g,d,m,os⟩) :
  AQ (model prog w) A (CT.«object.__setattr__» ⟨[.ref x,.str name tk,v],[]⟩) Q E ⟨h,g,d,t,os⟩:=by
 have f:=T.refuse (Bz.passes (.ref x));have LN:=EV (M:=model prog w) X u;have j:x≠h.objs.size:=BI (Aq k);repeat (first|rw[refuse_eq]|rw[MC,f]|(with_reducible refine Dm k ?_;rw[S])|with_reducible refine wpAny_mroOf_exc U ?_|(with_reducible refine LN.at ?_)|wp_step)
 rw[F,if_neg (by simp[typeHasDict])]
 split
 ·rename_i z;cases z
 split
 ·exact absurd (by assumption) (y _)
 have L:∀{b:AI}{ob:Obj},b≠x->h.get? b=AA ob->((h.push {cls:=.type "dict",data:=.dict #[]}).update x λo=>{cls:=o.cls,dict:=AA h.objs.size,data:=o.data,slots:=o.slots}).get? b=AA ob:=λn e=>(Fq _ _ _ _ n).trans (AN _ e);have V:((h.push {cls:=.type "dict",data:=.dict #[]}).update x λo=>{cls:=o.cls,dict:=AA h.objs.size,data:=o.data,slots:=o.slots}).get? x=AA {o with dict:=AA h.objs.size}:=by
  refine By _ (AN _ k) ?_;have D:=(Heap.get?_some_iff.mp k).2;obtain⟨oc,r,p,O⟩:=o;cases p<;>first|rfl|exact D
 refine AD (wpAny_alloc' (AD (wpAny_update' (AN _ k) (AL ?_))));have B:((h.push {cls:=.type "dict",data:=.dict #[]}).update x λo=>{cls:=o.cls,dict:=AA h.objs.size,data:=o.data,slots:=o.slots}).get? h.objs.size=AA {cls:=.type "dict",data:=.dict #[]}:=(Fq _ _ _ _ j.symm).trans (JN rfl rfl);refine AD (AL (AD (wpAny_nsSet1 (IL ⟨_,#[],_,B,rfl,λe he=>absurd he ∎,λ_=>rfl⟩) λh' hn' hs=>?_)));obtain⟨oD,W,Y,s,G,H⟩:=hn'.count (Within.cons name v Within.nil);refine AD (Kw s (by rw[G];exact Kx (Ax H (by rw[AY,BW,GP];lia))) ?_)
 wp_walk
 obtain⟨P,J,ep,e1,e2,e3,e4,Z⟩:=hn';refine R h' _ P (λb ob hb e=>(hs.2 b (BI (Aq e))).trans (L hb e)) ((hs.2 x j).trans V) e1 ?_;have i:Lm J name=AA v:=(Z name).trans (if_pos rfl);unfold lookIn;rw[e2];unfold Lm KC at i;obtain⟨l⟩:=J;rw[Ix]at i;show(match l.find? (·.key.isStr name)with|some e=>AA (AA e.val)|none=>if l.any (·.refKey)then AE else AA AE)=_;cases hl:l.find? (·.key.isStr name)with
 |none=>rw[hl]at i;cases i
 |some e=>rw[hl]at i;cases i;rfl
def b54{Q:Unit->AJ->Prop}(X:K.In h)(H:h.get? C=AA (EJ nm q C N bs bm AC sn sub ab col dd k0 k1 k2 k3 k5 newId))(T:OwnTail h L2.vB bm)(n:h.get? x=AA o)(B:o.cls=.ref C)(y:∀c,o.data≠.cls c)(z:o.dict=AE)(u:KN K (.ref C) name=AA AE)(p:KN K (.ref C) "__setattr__"=AA (AA (.builtin "object.__setattr__")))(s:mroIn K C (.type "object")=AA AC)
  (G:∀h' k m,(∀b ob,b≠x->h.get? b=AA ob->h'.get? b=AA ob)->h'.get? x=AA {o with dict:=AA h.objs.size}->h'.get? h.objs.size=AA m->lookIn name m=AA (AA v)->Q () ⟨h',g,d,k,os⟩) :
  AQ (model prog w) A (Ka (.ref x) name v) Q E ⟨h,g,d,t,os⟩:=by
 have R:=Bz.slot.bind (.ref x);have J:=EV (M:=model prog w) X p;have P:MB (model prog w) h (KJ (.ref x)) (.ref C):=B▸(Looks.ld n).andThen .now;have O:MB (model prog w) h (Gr (.ref x) (.type "object")) AC:=P.andThen (looks_mroIn X s);repeat (any_goals (first|assumption|(with_reducible refine Dm n ?_;rw[B])|(with_reducible refine J.at ?_)|wp_step))
 have D:=Bz.args (.ref x) (.str name t) v;refine EK Bz.slot.plain Bz.entry ?_;refine AD (O.at ?_);rw[if_neg ∅];have fin:AQ (model prog w) A.in1 (CT.«object.__setattr__» ⟨[.ref x,.str name t,v],[]⟩) (λfin s'=>match fin with
   |.done f=>(match(Except.ok f:IK)with
    |.ok (.ret v)=>AQ (model prog w) A (pure (AA v)) (λa s'=>AQ (model prog w) A (match a with|some _=>pure LQ|_=>unsupported "internal:no-__setattr__") Q E s') E s'
    |.ok _=>False
    |.error e=>E e s')
   |.again F=>F.quiet=AC/\Dz (model prog w) A F (λr s'=>match r with
    |.ok (.ret v)=>AQ (model prog w) A (pure (AA v)) (λa s'=>AQ (model prog w) A (match a with|some _=>pure LQ|_=>unsupported "internal:no-__setattr__") Q E s') E s'
    |.ok _=>False
    |.error e=>E e s') s') (λe s'=>E e s') ⟨h,g,d,t+1,os⟩:=bv1 X H T n B y z u λh' k m a b c e=>AL (AL (G h' k m a b c e))
 cases hsig:Manifest.signature? "object.__setattr__" with
 |none=>exact AL fin
 |some l=>
  simp only[KM,hsig]at D;have I:Jv "object.__setattr__" l ⟨[.ref x,.str name t,v],[]⟩=pure ():=D;show AQ _ _ (Jv "object.__setattr__" l ⟨[.ref x,.str name t,v],[]⟩) _ _ _;rw[I];exact AL fin
def b26{u:AF}{t0:AI}{Q:AF->AJ->Prop}(hC:h.get? C=AA (EJ nm q C N bs bm AC sn sub ab col dd k0 k1 k2 k3 k5 newId))(T:OwnTail h L2.vB bm)(hx:h.get? x=AA o)(hc:o.cls=.ref C)(hd:o.data=.fields #[.ref t0,.none,.none,.none,.bool AG,.none])
  (hq:∀h' vs',(∀b ob,b≠x->h.get? b=AA ob->h'.get? b=AA ob)->h'.get? x=AA {o with data:=.fields vs'}->Q .none ⟨h',g,d,t,os⟩) :
  AQ (model prog w) A (call (.builtin "ValueError.__init__") [.ref x,u]) Q E ⟨h,g,d,t,os⟩:=by
 refine DZ (EK GA.init.plain GA.initEntry (wpAny_check_init_subU GA T hC hx hc ?_));obtain⟨oc,odi,odt,osl⟩:=o;dsimp only at hc hd;subst hc hd
 wp_walk
 exact hq _ #[.ref h.objs.size,.none,.none,.none,.bool AG,.none] (λb ob hb e=>(Fq _ _ _ _ hb).trans (AN _ e)) (By _ (AN _ hx) rfl)
end
end PySem
namespace L2
open PySem PySem.Spec PyProof.Rows
abbrev ai5(K:AM)(C f:AI):Bool:=match K.lookup C with
 |some ⟨.type "type",_,.cls cd,sl⟩=>(match cd.mro,sl.toList with
  |.ref C'::bm,[_,_,_,_,AA (.builtin n),_]=>(C'==C&&n=="ValueError.__new__")&&((!cd.hasDel&&cd.hasDict)&&(W.tailIn K vB bm&&(W.nsOkIn K cd.ns&&Ae K cd.ns "__init__"==AA (AA (.ref f)))))
  |_,_=>AG)
 |_=>AG
def cy0{K}{h}{N}{m}{n}{v}(X:K.In h)(G:h.Ns N m)(e:Ae K N n=AA (AA v)):m n=AA v:=by
 obtain⟨o,d,f,a,c,_,b⟩:=G;unfold Ae at e
 split at e
 ·rename_i q;have z:=X _ _ q;rw[a]at z;rw[<-b];unfold Lm KC;split at e
  ·simp_all
  ·lia
 ·cases e
def ao3{K}{h}{C f}(X:K.In h)(q:ai5 K C f=AC):
  ∃e N nm g bs sn sub ab col dd k0 k1 k2 k3 k5 i,h.get? C=AA (EJ nm g C N bs e AC sn sub ab col dd k0 k1 k2 k3 k5 "ValueError.__new__")/\h.Ns N i/\i "__init__"=AA (.ref f)/\OwnTail h vB e:=by
 unfold ai5 at q
 split at q
 ·rename_i dd t k r
  split at q
  ·rename_i v e k0 k1 k2 k3 n k5 j p;simp at q;obtain⟨⟨rfl,rfl⟩,⟨a,d⟩,o,b,c⟩:=q;obtain⟨nm,bs,m,ns,g,u,sn,sub,ab,col,s⟩:=t;dsimp only at j a b c d;subst j a d;obtain⟨l⟩:=k;subst p;exact⟨e,ns,nm,g,bs,sn,sub,ab,col,dd,k0,k1,k2,k3,k5,_,X _ _ r,.of_isNs (Ii X b),cy0 X (.of_isNs (Ii X b)) c,MA X o⟩
  ·cases q
 ·cases q
@[reducible]noncomputable def ac1(a C:AI):HO:=.ext λh=>∃o,h.get? a=AA o/\o.cls=.ref C/\o.dict=AE/\∃t0,o.data=.fields #[.ref t0,.none,.none,.none,.bool AG,.none]
section
variable {X:Cx} {pins:List (AI×Obj)} {σ:St} {H:Hp} {s:AJ} {a:AI} {φ:Au->Prop} {o':HO} {h':Au}
def Inv.poke(I:Inv X pins σ H s)(j:∀b o,b≠a->s.heap.get? b=AA o->h'.get? b=AA o)(l:H a=AA (.ext φ))(m:∃u,h'.get? a=AA u)(i:l8 X.prog X.w (upd H a o') h' a o'){tk:Nat}:Inv X pins σ (upd H a o') {s with heap:=h',toks:=tk}:=by
 have h:∀{b:AI},H b=AE->b≠a:=λ{b}e z=>by lia
 have f:∀{b:AI}{u:HO},H b=AA u->(∀k,u≠.ext k)->upd H a o' b=AA u:=λ{b u}e n=>by
  have:b≠a:=λz=>by grind
  rw[f9 this];exact e
 refine I.call' (s':={s with heap:=h',toks:=tk}) (ch:=[]) rfl ⟨λb o e n _ _=>j b o (h n) e,λb o e n _ _=>⟨o.slots,j b o (h n) e⟩,λb u e n _=>by rw[f9 (h n)];exact n,λb o e _=>?_,λb xs e=>f e λ_=>nofun,λb o u e=>f e λ_=>nofun,λb ps e=>⟨#[],by simp_all⟩⟩ (λb u e=>?_) I.bare λb z=>absurd z AW
 ·by_cases g:b=a
  ·simp_all
  ·simp_all
 ·by_cases g:b=a
  ·subst g;rw[o0]at e;cases e;exact i
  ·rw[f9 g]at e;refine(I.hok b u e).stay (λc v d q=>j c v (λz=>?_) q) (λc q=>f q λ_=>nofun) λc xs q=>f q λ_=>nofun
   rcases d with d|d
   ·exact g (d▸z)
   ·rw[z,l]at d;cases d
end
end L2
namespace Ek
open PySem PySem.Spec PyProof.Rows L2
section
variable [Tbs]
structure EvOk(K:AM)(mg:Str->Option AF):Prop where
 ex:∃Ca mc,mg "EvenError"=AA (.ref Ca)/\Er K (.ref Ca) "__getattribute__"=AA (AA (.builtin "type.__getattribute__"))/\W.readsIn K Ca mc=AC/\W.findCls K (.ref Ca) mc "__init__"=AA (.val (.builtin "ValueError.__init__"))
structure NcOk(K:AM)(C f:AI):Prop extends NsX K C where
 ex:ai5 K C f=AC
 sa:Av K (.ref C) "__setattr__"=AA (AA (.builtin "object.__setattr__"))
section
variable {X:Cx} {pos:Pos}
def ck4{g a:Str}{C f:AI}{np ap p1 p2 cp:Pos}(E:EvOk X.K X.mg)(c:NcOk X.K C f)(F:Gl X "EvenError")(j:NvOk X 0 g)(h:NvOk X 1 a)
  (d:Dk (2+0) (Bp cp (Aj [.Name g p1,.Name a p2] X.env)) (El cp (DF [] X.env))=AC) (b:(ap.endLine==cp.line)=AC) :
  PE X (.Call (.Attribute (.Name "EvenError" np) "__init__" ap) [.Name g p1,.Name a p2] [] cp) (λσ H Q=>∃e i,σ[0]?=AA (AA (.ref e))/\σ[1]?=AA (AA (.int i))/\H e=AA (ac1 e C)/\Q .non (upd H e (M5 e C))):=λpins s σ H Q I q=>by
 obtain⟨e,i,M,L,t,q⟩:=q;obtain⟨Ca,mc,D,k,l,m⟩:=E.ex;refine FV (E5 I F D ?_) (af5 (λ_ _ _=>nofun) d b);refine W.method_cls I.kIn k (W.cls_value I.kIn l m rfl ?_);have S:Inv X pins σ H {s with toks:=s.toks+1}:=I.tok _;have G:PA X [.Name g p1,.Name a p2] (M2 (ac4 0) (M2 (ac4 1) V0)):=J8 (M0 j.at_ j.vis j.db j.cd) (J8 (M0 h.at_ h.vis h.db h.cd) W2 rfl) rfl;refine Bq rfl (Cm (thn (G cp pins _ σ H (λvs p=>vs=[.ref e,.int i]/\p=H) S ⟨_,M,_,L,rfl,rfl⟩) λus s1 z48=>?_));obtain⟨vs,p,n,r,x,v⟩:=z48;subst x v;obtain⟨y,U,rfl,z,Y⟩:=r.two;obtain rfl:y=.ref e:=z;obtain⟨bm,N,A,Z,bs,sn,sub,ab,col,dd,k0,k1,k2,k3,k5,mN,J,hN,B,T⟩:=ao3 n.kIn c.ex;obtain⟨⟨o,R,u,P,V,O⟩,_,_⟩:=(show l8 X.prog X.w p s1.heap e (ac1 e C) from n.hok e _ t);refine b26 J T R u O λh' vs' hk hx=>⟨.non,_,n.poke (tk:=s1.toks) hk t ⟨_,hx⟩ (bb3 hx u P rfl),rfl,q⟩
def ct9{Q A:Str}{C f:AI}{p1 p2 ap:Pos}(c:NcOk X.K C f)(F:NvOk X 0 Q)(E:NvOk X 1 A):
  PS X (.Assign [.Attribute (.Name Q p1) "at" ap] (.Name A p2) pos) (λD σ H=>∃e i,σ[0]?=AA (AA (.ref e))/\σ[1]?=AA (AA (.int i))/\H e=AA (M5 e C)/\∀P l tk,H P=AE->Fw "at" l=AA (AA (.int i tk))->D.nx σ (upd (upd H P (.frz l (.own 0))) e (.ext λh=>∃o,h.get? e=AA o/\o.cls=.ref C/\o.dict=AA P/\∃vs,o.data=.fields vs))):=λpins s σ H D I q=>by
 obtain⟨e,i,h0,h1,j,q⟩:=q;refine HN (thn (M0 E.at_ E.vis E.db E.cd pins s σ H (λv J=>v=.int i/\J=H) I ⟨_,h1,rfl,rfl⟩) λu s1 z49=>?_) rfl;obtain⟨y,J,I1,W,M,L⟩:=z49;subst M L;obtain⟨tk,rfl⟩:=W;refine thn (M0 F.at_ F.vis F.db F.cd pins s1 σ J (λv B=>v=.ref e/\B=J) I1 ⟨_,h0,rfl,rfl⟩) λov s2 z50=>?_;obtain⟨x,B,a,Y,M,L⟩:=z50;subst M L;obtain rfl:ov=.ref e:=Y;obtain⟨bm,N,Z,qn,bs,sn,sub,ab,col,dd,k0,k1,k2,k3,k5,mN,hC,hN,hni,T⟩:=ao3 a.kIn c.ex;obtain⟨⟨o,g1,U,g3,vs,S⟩,_,_⟩:=(show l8 X.prog X.w B s2.heap e (M5 e C) from a.hok e _ j);refine b54 a.kIn hC T g1 U (λc z=>by rw[S]at z;cases z) g3 c.no c.sa c.x.c8 λh' tk' l hk hx hd hl=>?_;have R:s2.heap.get? s2.heap.objs.size=AE:=Fk (AX _);have m:=a.hnone R;have O:∀{b u},s2.heap.get? b=AA u->b≠s2.heap.objs.size:=λe z=>by rw[z,R]at e;cases e
 have t:∀{b:AI}{u:HO},B b=AA u->(∀V,u≠.ext V)->upd (upd B s2.heap.objs.size (.frz l (.own 0))) e (.ext λh=>∃o,h.get? e=AA o/\o.cls=.ref C/\o.dict=AA s2.heap.objs.size/\∃vs,o.data=.fields vs) b=AA u:=λ{b u}G n=>by
  rw[f9 (λz=>by rw[z,j]at G;cases G;exact n _ rfl),f9 (o7 G m)];exact G
 refine⟨σ,_,a.call' (s':=⟨h',_,_,tk',_⟩) (ch:=[]) rfl ⟨λb o z n _ _=>hk b o (λy=>by rw[y,j]at n;cases n) z,λb o z n _ _=>⟨o.slots,hk b o (λy=>by rw[y,j]at n;cases n) z⟩,λb u z n _=>by rw[f9 (λy=>by rw[y,j]at n;cases n),f9 (O z)];exact n,λb o z _=>?_,λb xs z=>t z λ_=>nofun,λb o u z=>t z λ_=>nofun,λb ps z=>⟨#[],by rw[Fy];exact t z λ_=>nofun⟩⟩ (λb u z=>?_) a.bare λb z=>absurd z AW,q _ l tk m hl⟩
 ·by_cases g:b=e
  ·subst g;exact⟨_,hx⟩
  ·exact⟨o,hk b o g z⟩
 ·by_cases g:b=e
  ·subst g;rw[o0]at z;cases z;exact⟨⟨_,hx,U,rfl,vs,S⟩,⟨_,hx⟩,λh1 h2⟨o,e,r⟩k=>⟨o,k o e,r⟩⟩
  rw[f9 g]at z
  by_cases p:b=s2.heap.objs.size
  ·subst p;rw[o0]at z;cases z;exact⟨hd,_,hd⟩
  rw[f9 p]at z;refine(a.hok b u z).stay (λc v d y=>hk c v (λw=>?_) y) (λc y=>t y λ_=>nofun) λc xs y=>t y λ_=>nofun
  rcases d with d|d
  ·exact g (d▸w)
  ·rw[w,j]at d;cases d
end
end
section
variable [Tbs]
@[reducible]noncomputable def dc6(e C dx:AI):HO:=.ext λh=>∃o,h.get? e=AA o/\o.cls=.ref C/\o.dict=AA dx/\∃vs,o.data=.fields vs
abbrev at8(C:AI):Sp:=λvs H Q _=>∃e i,vs=[.ref e,.int i]/\H e=AA (ac1 e C)/\∀dx od tk H',H dx=AE->Fw "at" od=AA (AA (.int i tk))->H' dx=AA (.frz od (.own 0))->H' e=AA (dc6 e C dx)->(∀b,b≠e->b≠dx->H' b=H b)->Q .non H'
structure NcF(X:Cx)(CX:CXT):Prop where
 ex:∃C f fd k,NcOk X.K C f/\Ae X.K AK "NoStep"=AA (AA (.ref C))/\X.mg "NoStep"=AA (.ref C)/\BQ X.K (.ref C)=AC/\FnOk X.prog X.w X.K X.mg X.base CX k f fd ["self","at"] (at8 C)/\Room (k+1) X.A/\o8 X.K fd ["self","at"] []/\∃oI,X.K.lookup f=AA oI/\oI.cls=.type "function"
section
variable {X:Cx} {pos p:Pos}
def ck9{a:AS}{E:DT}{CX:CXT}(F:NcF X CX)(hx:B2 CX X E0)(hg:Gl X "NoStep")(ha:PE X a (up X.K E))(Z:∀e p,a≠.Starred e p):
  PE X (.Call (.Name "NoStep" p) [a] [] pos) (up X.K λenv st Q=>E env st λx j=>∃n,x=.int n/\∀p,j p=AE->Q (.ref p) (b0 j p (.exa "NoStep" n))):=λpins s σ H Q I q=>by
 obtain⟨env,st,Qd,hE,hS,ht,hq⟩:=q;obtain⟨C,f,fd,k,c,hn,hm,hk,Fo,hr,S,oI,hI,U⟩:=F.ex;refine BV (E5 I hg hm ?_);have pa:PA X [a] (M2 (up X.K E) V0):=J8 ha W2 (n8 Z);refine DD (h₀:=X.base) I.ok.mod.kin hk (thn (pa pos pins s σ H (λvs H1=>∃i j,vs=[.int i]/\RelS X.K j H1/\Ev st H j H1/\∀p,j p=AE->Qd (.ref p) (b0 j p (.exa "NoStep" i))) I ⟨env,st,_,hE,hS,ht,λv d l st' B is rs y=>?_⟩) λus s1⟨vs,H1,I1,r,i,j,z,rs,B,y⟩=>⟨I1.kIn,?_⟩) (n8 Z) rfl
 ·obtain⟨n,rfl,y⟩:=y;cases is;exact⟨n,st',rfl,rs,B,y⟩
 subst z;obtain⟨u,rfl,ru⟩:=r.one;obtain⟨bm,N,nm',qn,bs,sn,sub,ab,col,dd,k0,k1,k2,k3,k5,mN,hC,hN,M,T⟩:=ao3 I1.kIn c.ex;refine bn5 PySem.F.excBase_ValueError ∅ PySem.F.excBase_ValueError T hC hN M (I1.kIn _ _ hI) U (show 1<=sizeLine by rw[PySem.sizeLine_eq];lia) λh' e m=>?_;obtain⟨t0,he,_,_⟩:=m.there;have J:=I1.hnone m.new;have D:Inv X pins σ (upd H1 e (ac1 e C)) {s1 with heap:=h'}:=I1.grow m.keeps m.new ⟨⟨_,he,rfl,rfl,t0,rfl⟩,⟨_,he⟩,λh1 h2⟨o,e,r⟩k=>⟨o,k o e,r⟩⟩;have r2:g9 [V.ref e,.int i] [Al e,u]:=.cons rfl (.cons ru .nil);have L:at8 C [.ref e,.int i] (upd H1 e (ac1 e C)) (λv H2=>v=.non/\Q (.ref e) H2) E0:=⟨e,i,rfl,o0,λdx od tk l hd hl g1 g2 g3=>⟨rfl,?_⟩⟩
 ·have S:=S {s1 with heap:=h'} [.ref e,u] D.kIn rfl;refine DZ (De (Fo.run _ X.stack _ _ ⟨[.ref e,u],[]⟩ [.ref e,u] _ _ E0 (hr.make C [u] []) (D.env0.make C [u] []) S r2 L) λr s' hz=>?_);cases r with
  |error e=>exact hx pins σ _ _ e s' D hz
  |ok fl=>
   cases fl with
   |ret u=>
    obtain⟨v,l,I3,rv,B,q3⟩:=D.after hz;subst B;exact⟨rv,⟨V.ref e,l,I3,rfl,q3⟩⟩
   |next=>exact AU hz
   |brk=>exact AU hz
   |cont=>exact AU hz
 ·have O:dx≠e:=λz=>by rw[z,o0]at hd;cases hd
  have P:H1 dx=AE:=by rw[f9 O]at hd;exact hd
  have g:∀b u,H1 b=AA u->l b=AA u:=λb u eb=>by
   have b1:b≠e:=o7 eb J;rw[g3 b b1 (o7 eb P),f9 b1];exact eb
  have t:TK X.K H1 l:=⟨⟨λa xs q=>by
   rcases q with(q|⟨G,q⟩)|q
   ·exact .inl (.inl (g _ _ q))
   ·exact .inl (.inr ⟨G,g _ _ q⟩)
   ·exact .inr q,λa xs q=>g _ _ q⟩,λa o u q _=>g _ _ q⟩
  refine hq _ _ l (b0 j e (.exa "NoStep" i)) (λb o h k=>?_) (.ref e) ⟨λb o eb=>?_,rs.tb.stay t λb ps eb=>g _ _ eb⟩ (y e (rs.free J))
  ·obtain⟨⟨G,Y,w2⟩,w3⟩:=B b o h k;exact⟨⟨G,g _ _ Y,w2⟩,by rw[B6 (o7 Y J)];exact w3⟩
  ·by_cases A:b=e
   ·subst A;rw[f7]at eb;cases eb;exact⟨C,dx,od,.own 0,tk,g2,hn,g1,λ_=>nofun,hl⟩
   ·rw[B6 A]at eb;have z:=rs.ob b o eb;have R:l b=H1 b:=by
     cases w:H1 b with
     |none=>rw[rs.free w]at eb;cases eb
     |some u=>exact g _ _ w
    exact z.stay t R
end
end
section
variable [Tbs]
end
end Ek
namespace PySem
def bm6:Du (.type "enumerate") "__getattr__"=pure AE:=by kernel_rfl
def br4:Du (.type "enumerate") "keys"=pure AE:=rfl
def bp2:Jg table "enumerate.__getattribute__"=AA CT.«object.__getattribute__»:=
 Ly (id':="object.__getattribute__") (rfl) (rfl) (by decide+kernel) (rfl)
abbrev EnO(h:Au)(e it:AI)(i:Int)(f:AF)(fb:Bool)(old:AF):Prop:=h.get? e=AA {cls:=.type "enumerate",dict:=AE,data:=.fields #[f,.bool fb,.ref it,Bt i,.none,old],slots:=#[]}
def bn3(e:AI)(i:Array AF)(u:Tok):
  Meets (CT.«object.__getattribute__» ⟨[.ref e,.str "keys" u],[]⟩) (λA R s=>s.heap.get? e=AA {cls:=.type "enumerate",dict:=AE,data:=.fields i,slots:=#[]}/\raisesAttr (.ref e) "keys" A R s):=
 Meets.of_wp λprog w A R s a=>by
  obtain⟨h,g,d,tk,c⟩:=s;obtain⟨f,a⟩:=a;have j:(⟨h,g,d,tk,c⟩:AJ).TypeIs (.ref e) "enumerate":=⟨_,f,rfl⟩;have b:=br4;unfold CT.«object.__getattribute__»
  repeat (any_goals (first|assumption|wp_step))
  exact wpAny_raiseAttrError a.1 a.2 (attrMsg_fits (by decide+kernel) (by decide+kernel))
section
variable {prog:AZ} {w:At} {A:BG} {E:AF->AJ->Prop} {s:AJ}
set_option maxRecDepth 8000 in
def ch1{e:AI}{fs:Array AF}{Q:Option AF->AJ->Prop}(hx:s.heap.get? e=AA {cls:=.type "enumerate",dict:=AE,data:=.fields fs,slots:=#[]})(hA:A.handled=AE)
  (h:∀h' tk,(∀b o,s.heap.get? b=AA o->h'.get? b=AA o)->Q AE {s with heap:=h',toks:=tk}) :
  AQ (model prog w) A (Jk (.ref e) "keys") Q E s:=by
 obtain⟨hp,g,d,tk,os⟩:=s;have hT:∀tk',(⟨hp,g,d,tk',os⟩:AJ).TypeIs (.ref e) "enumerate":=λ_=>⟨_,hx,rfl⟩;have f1:=sub_AttributeError;have f3:=Dw.lookup;have f4:=Dw.bind (.ref e);have f5:=bm6;unfold Jk getAttrBy? LO
 repeat (any_goals (first|assumption|exact hT _|((with_reducible show AQ _ _ (call (HR "enumerate.__getattribute__") _ _) _ _ _);refine FZ Dw (hT _) bp2 (F.args_enumerate_getattribute_2 _ _) (bn3 e fs _) ⟨hx,hA,λh' tk' x hx'=>?_⟩)|wp_step))
 obtain⟨t',u',he⟩:=hx'.there;show AQ _ _ (KO _ _ _ _ _ _ _) _ _ _;unfold KO
 repeat (any_goals (first|assumption|wp_step))
 exact h _ _ hx'.keeps
end
variable{e it:AI}{f:AF}{fb:Bool}
section
variable {prog:AZ} {w:At} {A:BG} {E:AF->AJ->Prop} {s:AJ}
abbrev ai3(f:AF):Prop:=f=.none\/∃c:AI,f=Bt c
def cm2{i}{old}(Z:EnO s.heap e it i f fb old)(d:ai3 f){R}
  (r:∀b h' a,EnO h' e it i f a old->BB e s.heap h'->R b {s with heap:=h'}):AQ (model prog w) A (CU (.ref e)) R E s:=by
 rcases d with rfl|⟨c,rfl⟩
 ·exact AD (Ay Z rfl rfl (AL (r AC s.heap fb Z ⟨rfl,λ_ _=>rfl⟩)))
 ·refine AD (Ay Z rfl rfl ?_);refine AD (bq8 ?_);split
  ·exact AL (r AC s.heap fb Z ⟨rfl,λ_ _=>rfl⟩)
  ·refine AD (Ay Z rfl rfl ?_)
   split
   ·exact AD (Cg Z ∎ λh1 Z1 e1=>AL (r AG h1 AC Z1 e1))
   ·exact AL (r AG s.heap fb Z ⟨rfl,λ_ _=>rfl⟩)
def cb7{l:AI}{i:Nat}{H:Array AF}{x c:AF}{Q:Option AF->AJ->Prop}(Z:EnO s.heap e it i f fb c)(J:ai3 f)(I:C4 AC s.heap it l i)(L:D4 AC s.heap l H)(O:H[i]?=AA x)(a:e≠it)
  (q:∀h' M y u tk,EnO h' e it ((i+1:Nat):Int) M y u->ai3 M->C4 AC h' it l (i+1)->h'.get? s.heap.objs.size=AA {cls:=.type "tuple",data:=.seq #[.int i tk,x]}->h'.objs.size=s.heap.objs.size+1 ->
   (∀b o,b≠e->b≠it->s.heap.get? b=AA o->h'.get? b=AA o)->Q (AA (.ref s.heap.objs.size)) {s with heap:=h',toks:=tk+1}) :
  AQ (model prog w) A (Ei (.ref e)) Q E s:=by
 have K:s.TypeIs (.ref e) "enumerate":=⟨_,Z,rfl⟩;obtain⟨v,g,d,tk,R⟩:=s;refine AD (Cr (BN (name:=Ab "__next__") K Dq (BL Dq K Ik ?_ (IW _))));show AQ _ _ (field (.ref e) 2>>=_) _ _ _;refine AD (Ay Z rfl (x:=.ref it) rfl ?_);refine AD (ca7 I L O λg1 J1 e1=>?_);have F:EnO g1 e it i f fb c:=(e1.2 e a).trans Z;refine AD (Ay F rfl (x:=Bt i) rfl ?_);refine AD (Ay F rfl (x:=.none) rfl ?_);refine AD (Hh ?_);refine AD (Cg F ∎ λg2 Z2 e2=>?_);refine AD (Cg Z2 ∎ λg3 Z3 e3=>?_);refine AD (wpAny_newTuple ?_);have D:g3.objs.size=v.objs.size:=by rw[e3.1,e2.1,e1.1]
 have C:∀b o,b≠e->b≠it->v.get? b=AA o->g3.get? b=AA o:=λb o n1 n2 h=>e3.extBut _ _ n1 (e2.extBut _ _ n1 (e1.extBut _ _ n2 h));have P:C4 AC g3 it l (i+1):=J1.stay λo h=>e3.extBut _ _ a.symm (e2.extBut _ _ a.symm h);have B:=Ar g3 (o:={cls:=.type "tuple",data:=.seq #[.int i tk,x]}) rfl;have N:EnO (g3.push {cls:=.type "tuple",data:=.seq #[.int i tk,x]}) e it ((i+1:Nat):Int) f fb c:=AN _ Z3;have r:(g3.push {cls:=.type "tuple",data:=.seq #[.int i tk,x]}).objs.size=v.objs.size+1:=by rw[GY,D]
 have p:∀b o,b≠e->b≠it->v.get? b=AA o->(g3.push {cls:=.type "tuple",data:=.seq #[.int i tk,x]}).get? b=AA o:=λb o n1 n2 h=>AN _ (C b o n1 n2 h);have G:C4 AC (g3.push {cls:=.type "tuple",data:=.seq #[.int i tk,x]}) it l (i+1):=P.stay λo h=>AN _ h;rw[D]at B;have z:v.objs.size≠e:=GO (Aq Z);rw[D];generalize g3.push {cls:=.type "tuple",data:=.seq #[.int i tk,x]}=g4 at B N r p G;refine AD (cm2 N J λb g5 y Z5 t=>?_);replace t:BB e g4 g5:=t;cases b with
 |true=>
  simp only[if_true];refine AD (Ef (AD (Ay Z5 rfl (x:=c) rfl (AD (Cg Z5 ∎ λg6 Z6 e6=>?_)))));refine AD ?_;refine AD (Cg Z6 ∎ λg7 Z7 e7=>?_);refine Cg Z7 ∎ λg8 Z8 e8=>?_;have k:∀b o,b≠e->g4.get? b=AA o->g8.get? b=AA o:=λb o n h=>e8.extBut _ _ n (e7.extBut _ _ n (e6.extBut _ _ n (t.extBut _ _ n h)));exact AD (wpAny_letGo (AL ⟨_,rfl,AL (q g8 _ _ _ tk Z8 (.inr ⟨_,rfl⟩) (G.stay λo h=>k _ o a.symm h) (k _ _ z B) (by rw[e8.1,e7.1,e6.1,t.1,r]) λb o n1 n2 h=>k b o n1 (p b o n1 n2 h))⟩))
 |false=>
  have m:∀b o,b≠e->g4.get? b=AA o->g5.get? b=AA o:=λb o n h=>t.extBut _ _ n h;exact AL ⟨_,rfl,AL (q g5 _ _ _ tk Z5 J (G.stay λo h=>m _ o a.symm h) (m _ _ z B) (by rw[t.1,r]) λb o n1 n2 h=>m b o n1 (p b o n1 n2 h))⟩
def cc0{l}{i:Nat}{xs}{old}{Q}(c:A.handled=AE)(Z:EnO s.heap e it i f fb old)(I:C4 AC s.heap it l i)(L:D4 AC s.heap l xs)(b:xs[i]?=AE)
  (q:∀h',FU it s.heap h'->Q AE {s with heap:=h'}):AQ (model prog w) A (Ei (.ref e)) Q E s:=by
 have a:s.TypeIs (.ref e) "enumerate":=⟨_,Z,rfl⟩;refine AD (Cr (BN a Dq (BL Dq a Ik ?_ (IW _))));show AQ _ _ (field (.ref e) 2>>=_) _ _ _;refine AD (Ay Z rfl rfl ?_);refine AD (cn0 c I L b λh' v hu⟨o,ho,hc⟩=>?_);exact AD (FN ⟨o,ho,hc⟩ Lz (AL (q _ hu)))
end
end PySem
namespace PySem
variable{xs:Array AF}
def a77:Jg table "dict.update.loop"=AA CT.«dict.update.loop»:=LK rfl
def af4:plainId "dict.update.loop"=AC:=by decide+kernel
abbrev D8(xs:Array AF)(i:Nat):List (L2.Key×AF):=(DN i).map λ(j:Nat)=>(.inl (j:Int),(xs[j]?).getD .none)
def bv6{i}{x}(h:xs[i]?=AA x):stored (D8 xs i) (.inl i) x=D8 xs (i+1):=by
 have c:¬((D8 xs i).any λkv=>AB (kv.1=(.inl i)))=AC:=by
  intro z;obtain⟨kv,a,e⟩:=any_eq_true.mp z;obtain⟨j,d,rfl⟩:=DV.mp a;have:=Jq.mp d;lia
 unfold stored;rw[if_neg c];unfold D8;rw[List.range_succ];simp[h]
def b32{i:Nat}:(D8 xs i).length=i:=by simp[D8]
section
variable {prog:AZ} {w:At} {A:BG} {E:AF->AJ->Prop} {s:AJ}
def b52{e g l d:AI}{R:IK->AJ->Prop}(N:A.handled=AE)(t:e≠g)(C:d≠e)(p:d≠g)(J:d≠l)(H:l≠e)(G:l≠g)(S:xs.size<=1000000):
  ∀(m i:Nat)(s:AJ)(f a:AF)(v:Bool),xs.size-i=m->i<=xs.size->EnO s.heap e g i f v a->ai3 f->C4 AC s.heap g l i->D4 AC s.heap l xs->s.heap.DictOf (L2.A0 prog w) d (D8 xs i) ->
  (∀h' tk,(∀b o,b≠d->b≠e->b≠g->s.heap.get? b=AA o->h'.get? b=AA o)->h'.DictOf (L2.A0 prog w) d (D8 xs xs.size)->R (.ok (.ret .none)) {s with heap:=h',toks:=tk}) ->
  Dz (model prog w) A (.builtin "dict.update.loop" ⟨[.ref d,.ref e,Bt i,.none],[]⟩) R s:=by
 intro m
 induction m with
 |zero=>
  intro i s f a v M hi Z F I L D u;have n:i=xs.size:=by lia
  refine Ld a77 ?_;rw[IA af4 _];refine AD (cc0 N Z I L (by rw[n];exact Array.getElem?_eq_none (AX _)) λh' up=>?_);refine AD (AL (AL (u h' s.toks (λb o _ _ c h=>up b o c h) ?_)));obtain⟨o,x,y,q,r⟩:=D;rw[<-n];exact⟨o,x,y,up d o p q,r⟩
 |succ m K=>
  intro i s f a v M hi Z F I L D u;have j:i<xs.size:=by lia
  have E:=Array.getElem?_eq_getElem j;refine Ld a77 ?_;rw[IA af4 _];refine AD (cb7 Z F I L E t λg1 f' fb' old' tk Z1 hf1 J1 T1 sz1 up1=>?_);have Q:g1.DictOf (L2.A0 prog w) d (D8 xs i):=by
   obtain⟨o,x,y,q,r⟩:=D;exact⟨o,x,y,up1 d o C p q,r⟩
  have P:D4 AC g1 l xs:=L.stay λo h=>up1 _ o H G h;refine AD (BO ?_);refine AD (wpAny_tryCatch ?_);unfold Lf;refine AD (ET (T:="tuple") ⟨_,T1,rfl⟩ ?_);refine AD (Eg T1 rfl (AL ?_));refine BO (wpAny_dictSet_pairs (knd:=L2.A0 prog w) (k:=.inl (i:Int)) (L2.aa8 (k:=.inl (i:Int)) ⟨tk,rfl⟩) Q (λg2 D2 e2=>?_) (by rw[b32,GP];lia));rw[bv6 E]at D2;refine AL ⟨plainId_quiet af4 _,?_⟩;have O:EnO g2 e g ((i+1:Nat):Int) f' fb' old':=e2.extBut _ _ C.symm Z1;refine K (i+1) {s with heap:=g2,toks:=_} f' old' fb' ⋯ j O hf1 (J1.stay λo h=>e2.extBut _ _ p.symm h) (P.stay λo h=>e2.extBut _ _ J.symm h) D2 λh3 tk3 up3 D3=>?_;exact u h3 tk3 (λb o c1 c2 c3 h=>up3 b o c1 c2 c3 (e2.extBut _ _ c1 (up1 b o c2 c3 h))) D3
def bn1{e it l}{Q}(g:A.handled=AE)(f:e≠it)(j:l≠e)(i:l≠it)(k:xs.size<=1000000)(Z:EnO s.heap e it 0 .none AG .none)(I:C4 AC s.heap it l 0)(L:D4 AC s.heap l xs)
  (n:∀h' tk,(∀b o,b≠e->b≠it->s.heap.get? b=AA o->h'.get? b=AA o)->h'.DictOf (L2.A0 prog w) s.heap.objs.size (D8 xs xs.size)->Q (.ref s.heap.objs.size) {s with heap:=h',toks:=tk}) :
  AQ (model prog w) A (call (.type "dict") [.ref e]) Q E s:=by
 refine callType_codes (Q₁:=λobj s₁=>obj=.ref s.heap.objs.size/\s₁={s with heap:=s.heap.push {cls:=.type "dict",data:=.dict #[]}}) F.kt_called_dict (F.kt_typeCall_dict_1 _) F.entry_dict_init (kt_code_dict_new _ ⟨rfl,rfl⟩) ?_;rintro obj s₁ ⟨rfl,rfl⟩;have a:(s.heap.push {cls:=.type "dict",data:=.dict #[]}).DictOf (L2.A0 prog w) s.heap.objs.size []:=Hx s.heap;have d:EnO (s.heap.push {cls:=.type "dict",data:=.dict #[]}) e it 0 .none AG .none:=AN _ Z;have v:C4 AC (s.heap.push {cls:=.type "dict",data:=.dict #[]}) it l 0:=I.stay λo h=>AN _ h;have u:D4 AC (s.heap.push {cls:=.type "dict",data:=.dict #[]}) l xs:=L.stay λo h=>AN _ h;have c:∀{b o},s.heap.get? b=AA o->s.heap.objs.size≠b:=λh=>GO (Aq h);obtain⟨y,t,_⟩:=I.obj;refine⟨a.typeIs,F.args_dict_init_2 _ _,?_⟩;refine AD ?_;refine AD (wpAny_notOrdered_dict a.typeIs ?_);refine AL ?_;show AQ _ _ (Gg "dict.__init__" s.heap.objs.size (.ref e) [] .none) _ _ _;refine AD (ET ⟨_,d,rfl⟩ ?_);refine AD (ch1 d (by exact g) λg1 tk up1=>?_);refine AD (Ef (AD (Ez (up1 _ _ d) (AL ?_))));refine⟨plainId_quiet af4 _,?_⟩;have x:g1.DictOf (L2.A0 prog w) s.heap.objs.size (D8 xs 0):=by
  obtain⟨o,p,q,m,r⟩:=a;exact⟨o,p,q,up1 _ o m,r⟩
 refine b52 (by exact g) f (c Z) (c t) (GO L.lt) j i k xs.size 0 {s with heap:=g1,toks:=tk} .none .none AG ⋯ (BU _) (up1 _ _ d) (.inl rfl) (v.stay λo h=>up1 _ o h) (u.stay λo h=>up1 _ o h) x λh' tk' up2 D2=>?_;exact⟨rfl,n h' tk' (λb o c1 c2 h=>up2 b o (c h).symm c1 c2 (up1 b o (AN _ h))) D2⟩
end
end PySem
namespace Ek
open PySem PySem.Spec PyProof.Rows L2
section
variable [Tbs]
theorem a83{α}:∀(l:List α)i,(p9 i l).length=l.length
 |[],_=>rfl
 |x::r,i=>by simp[p9,a83 r (i+1)]
theorem bb5:∀l(n i),i+l.length=n->∀(a:Array AF),(∀j,a[i+j]?=l[j]?)->(LH i l.length).map (λ(j:Nat)=>((.inl j:Key),(a[j]?).getD .none))=p9 i l
 |[],n,i,_,a,_=>rfl
 |x::r,n,i,c,a,h=>by
  have b:=h 0;simp only[LR]at b;rw[AY,JS,Ag,b];rw[bb5 r n (i+1) (by simp at c;lia) a λj=>by
   have:=h (j+1);rw[Hm]at this;rw[<-this];lia]
  rfl
def cd0 l:D8 l.toArray l.toArray.size=p9 0 l:=by
 unfold D8;rw[List.range_eq_range'];exact bb5 l l.length 0 ∎ l.toArray λj=>by simp
theorem ba7:∀{vs}{b}i,g9 vs b->KV (p9 i vs) (p9 i b)
 |_,_,i,.nil=>.nil
 |_,_,i,.cons a r=>.cons ⟨rfl,a⟩ (ba7 (i+1) r)
theorem bc9{K:AM}{H:Hp}:∀{ds:List D}{vs:List V}i,ds.length=vs.length->(p9 i ds).map (·.1)=(p9 i vs).map (·.1)
 |[],[],i,_=>rfl
 |d::ds,v::vs,i,h=>by simp only[p9,Ag];rw[bc9 (K:=K) (H:=H) (i+1) (by simpa using h)]
 |[],_::_,_,h=>by simp at h
 |_::_,[],_,h=>by simp at h
theorem ao4{α}:∀(l:List α)i,(p9 i l).map (·.2)=l
 |[],_=>rfl
 |x::r,i=>by simp[p9,ao4 r (i+1)]
def cf6{K}{H}{ds}{vs}(r:IsDs K H ds vs):IsKs K H (p9 0 ds) (p9 0 vs):=⟨bc9 (K:=K) (H:=H) 0 r.len,by rwa[ao4,ao4]⟩
def bw3:BF "dict"=AA (.type "dict"):=by decide+kernel
section
variable {X:Cx} {a b:AS} {ta tb:DT} {pos apos p:Pos}
def cv6(N:X.A.units+200<CG)(L:PE X a (up X.K ta))(J:PE X b (up X.K tb))(g:∀i p E,a≠.Call (.Name i p) [] [] E)(u:∀e p,b≠.Starred e p)(f:(apos.endLine==pos.line)=AC):
  PE X (.Call (.Attribute a "get" apos) [b] [] pos) (up X.K λenv st Q=>ta env st λx st1=>av2 x st1/\tb env st1 λy st2=>au2 x y st2 Q):=
 PE.imp (a58 ⋯ L J ⟨C7 g,by rw[n8 u];rfl,f,by rw[n8 u];rfl⟩) λσ H Q q=>by
  obtain⟨env,st,O,C,B,G,w⟩:=q;refine⟨env,st,_,C,B,G,λx d H1 st1 ev is rs j=>?_⟩;obtain⟨z,j⟩:=j;cases d<;>first|exact z.elim|skip
  rename_i p;obtain⟨F,I⟩:=z;obtain⟨vs,M,r⟩:=rs.dct I;refine⟨p,is.ref_inv,.inl ⟨vs,.inl M⟩,env,st1,_,C.mono (ev.tk B),rs,j,λy e H2 st2 ev2 is2 rs2 c=>?_⟩;cases e<;>first|exact c.elim|skip
  rename_i i;obtain⟨t,o,c⟩:=c;obtain⟨h,s,D⟩:=rs2.dct o;refine⟨r8 h (.inl i),by rw[is2.int_inv];exact F9.k (k:=.inl i) s,?_⟩
  rcases D.look (.inl i)with⟨m,l⟩|⟨d,v,m,l,n⟩
  ·rw[l];rw[m]at c;exact w _ _ _ st2 (ev.trans ev2) .non rs2 c
  ·rw[l];rw[m]at c;exact w _ _ _ st2 (ev.trans ev2) n rs2 c
def b63{p2 g:Pos}(hc:X.calm=AC)(Z:Gl X "dict")(Y:X.mg "dict"=AE)(B:Gl X "enumerate")(A:X.mg "enumerate"=AE)(ha:PE X a (up X.K ta))(G:∀e p,a≠.Starred e p):
  PE X (.Call (.Name "dict" p) [.Call (.Name "enumerate" p2) [a] [] g] [] pos) (up X.K λenv st Q=>ta env st λx c=>∃ds,x=.tup ds/\ds.length<=1000000/\∀p,c p=AE->Q (.ref p) (b0 c p (.dct (p9 0 ds)))):=by
 intro f s t H Q I q;obtain⟨env,st,J,hE,hS,U,V⟩:=q;have z:Aj [a] X.env=[(AG,eval a X.env)]:=by rw[n8 G];rfl
 refine JX (L7 I Z Y bw3 (BH (Q:=_) (DL ?_) rfl rfl));refine JX (L7 I B A L2.av9 (BH (thn (L9 ha G g f s t H (λvs i=>∃v ds c,vs=[v]/\Ev st H c i/\IsD X.K i (.tup ds) v/\RelS X.K c i/\ds.length<=1000000/\∀p,c p=AE->J (.ref p) (b0 c p (.dct (p9 0 ds)))) I
  ⟨env,st,(λds c=>match ds with|[x]=>∃ds,x=.tup ds/\ds.length<=1000000/\∀p,c p=AE->J (.ref p) (b0 c p (.dct (p9 0 ds)))|_=>False),hE,hS,U,λvs ds H' st' D y hl r j=>?_⟩) λus s1 hh=>?_) z rfl))
 ·match ds,hl with
  |[d],_=>
   obtain⟨v,ws,rfl,T,S⟩:=y.inv_cons;rw[S.inv_nil];obtain⟨ds,rfl,j⟩:=j;exact⟨v,ds,st',rfl,D,T,r,j⟩
 obtain⟨vs,i,n,O,v,ds,c,e,D,y,r,m,j⟩:=hh;subst e;obtain⟨u,rfl,N⟩:=O.one;obtain⟨l,vs,rfl,P,w⟩:=y.tup_inv;cases N;obtain⟨k,E,L,hz⟩:=n.seqB (b:=AC) P;have R:=E.length;have W:k.toArray.size=ds.length:=by rw[Ad,<-R,<-w.len]
 refine av7 (show s1.heap.IsTuple l k.toArray from L) λh1 he hit hsz kk=>?_;refine EQ ?_;have I2:Inv X f t i {s1 with heap:=h1}:=n.kept (t':=s1.toks) kk;have F:=L.lt;refine bn1 (s:={s1 with heap:=h1}) (I2.ok.hd hc) (Fa _) (BI (EY F)) (BI F) (by rw[W];exact m) he hit (L.stay λo e=>kk _ o e) λh2 tk up D2=>?_;have M:h1.objs.size=s1.heap.objs.size+2:=hsz;rw[cd0]at D2;have h:s1.heap.objs.size<=h1.objs.size:=by rw[M];lia
 have C:i h1.objs.size=AE:=n.hok.fresh h;have I3:Inv X f t (upd i h1.objs.size (.dK (p9 0 vs))) {s1 with heap:=h2,toks:=tk}:=n.laid (t':=tk) (λb o e=>up b o (BI (EY (Aq e))) (BI (Aq e)) (kk b o e)) h
  (ar8 (by rw[a83,<-w.len];exact Ax m ∅) (beq_eq_false_iff_ne.mpr (GO (Ah n.big h))) (ba7 0 E) D2)
 refine⟨.ref _,_,I3,rfl,?_⟩;exact V _ (.ref h1.objs.size) _ (b0 c h1.objs.size (.dct (p9 0 ds))) (D.trans (Ev.newS C)) (.ref _) (r.putNewD C (cf6 w)) (j _ (r.free C))
end
end
section
variable [Tbs]
end
section
variable [Tbs]
@[reducible]noncomputable def Fz:HO:=.ext λ_=>True
def at3:∀vs,Fz≠.lst vs:=λ_=>nofun
def ah3{P}{w}{H}{h}{a}{o}(e:h.get? a=AA o):l8 P w H h a (.frz o Fz):=⟨e,trivial,⟨o,e⟩,λ_ _ _ _=>trivial⟩
section
variable {X:Cx} {pins:List (AI×Obj)} {σ:L2.St} {H H':Hp} {s:AJ}
def bs2{x:Str}{c:AI}{o:Obj}{v:Option AF}(I:L2.Inv X pins σ H s)(i:X.env.cells.lookup x=AA c)(f:X.fn x=AG)(g:X.s₀.heap.objs.size<=c)(w:H c=AE)(h:s.heap.get? c=AA o)(y:o.data=.cell v):
  L2.Inv X pins σ (upd H c (.frz o Fz)) s:=by
 have nn:∀{b:AI}{u:HO},H b=AA u->b≠c:=λe=>o7 e w;refine⟨I.ok,I.os,I.bare,⟨I.base.keep,I.base.slot,λb ob e n hx=>?_,I.base.there,λb xs e=>?_,λb ob u e=>?_,λb ps e=>?_⟩,I.loc,I.cell,?_,λx' c' e=>?_,λp hp=>?_,λb u e=>?_,I.len⟩
 ·rw[f9 (BI (Ah (Aq e) g))];exact I.base.free b ob e n hx
 ·have:=I.base.tups b xs e;rw[f9 (nn this)];exact this
 ·have:=I.base.frzs b ob u e;rw[f9 (nn this)];exact this
 ·obtain⟨m,q⟩:=I.base.tbls b ps e;exact⟨m,by rw[f9 (nn q)];exact q⟩
 ·rw[f9 (Ao (I.cne x c i))];exact I.free
 ·by_cases j:c'=c
  ·subst j;have:=I.ok.inj x' x c' e i;subst this;exact .inr ⟨f,o,Fz,o0⟩
  ·rw[f9 j];exact I.freeC x' c' e
 ·obtain⟨e,n,t,l,d⟩:=I.pin p hp;refine⟨e,?_,t,l,d⟩;rw[f9 λz=>?_]
  ·exact n
  ·rw[z,h]at e;exact d v (by rw[<-BA e];exact y)
 ·by_cases k:b=c
  ·subst k;rw[o0]at e;cases e;exact ah3 h
  ·rw[f9 k]at e;exact(I.hok b u e).stay (λ_ _ _ q=>q) (λa r=>by rw[f9 (nn r)];exact r) λa xs r=>by rw[f9 (nn r)];exact r
def bd2{K}(e:F7 H H'):TK K H H':=⟨⟨λa xs q=>by
 rcases q with(q|⟨a,q⟩)|q
 ·exact .inl (.inl (e _ _ q))
 ·exact .inl (.inr ⟨a,e _ _ q⟩)
 ·exact .inr q,λa xs=>e _ _⟩,λa o u q _=>e _ _ q⟩
def a84{K}{a}{o}(z:ObR K H a o):∃u,H a=AA u/\∀e,u≠.tbl e:=by
 cases o with
 |lst ds=>obtain⟨vs,b,_⟩:=z;exact⟨_,b,λ_=>nofun⟩
 |fro ds=>
  obtain⟨vs,b|⟨u,b⟩,_⟩:=z
  ·exact⟨_,b,λ_=>nofun⟩
  ·exact⟨_,b,λ_=>nofun⟩
 |dct d=>obtain⟨vs,b,_⟩:=z;exact⟨_,b,λ_=>nofun⟩
 |dtt d=>obtain⟨vs,b,_⟩:=z;exact⟨_,b,λ_=>nofun⟩
 |ins c m=>obtain⟨C,p,vs,b,_⟩:=z;exact⟨_,b,λ_=>nofun⟩
 |exc c=>obtain⟨C,b,_⟩:=z;exact⟨_,b,λ_=>nofun⟩
 |exa c n=>obtain⟨C,_,_,_,_,b,_⟩:=z;exact⟨_,b,λ_=>nofun⟩
def bx7{K}{st}(r:RelS K st H)(e:F7 H H'):=r.stay (bd2 e) λa o h=>by
 obtain⟨u,b,_⟩:=a84 (r.ob a o h);rw[b,e _ _ b] λa ps=>e _ _
def b77{st}(e:F7 H H'):Ev st H st H':=λa o h k=>⟨⟨o,e _ _ h,.inl rfl⟩,k⟩
theorem ax8(I:L2.Inv X pins σ H s):∀(e:List Str),(∀x∈e,X.fn x=AG/\X.ow x=AC/\∃c,X.env.cells.lookup x=AA c) ->
  ∃l,L2.Inv X pins σ l s/\F7 H l/\∀x∈e,∃c o u,X.env.cells.lookup x=AA c/\l c=AA (.frz o u)/\(∀vs,u≠.lst vs)/\s.heap.get? c=AA o
 |[],_=>⟨H,I,F7.refl H,λx h=>absurd h AW⟩
 |x::e,h=>by
  obtain⟨k,d,B,z⟩:=ax8 I e λy a=>h y (Am _ a);obtain⟨j,g,c,b⟩:=h x Bo;obtain⟨v,o,i,t⟩:=d.cell x c b
  rcases d.freeC x c b with r|⟨_,f,u,p⟩
  ·have N:=bs2 d b j (d.ok.cab x c (.inr g) b) r i t;have A:F7 k (upd k c (.frz o Fz)):=λb u q=>by rw[f9 (o7 q r)];exact q
   refine⟨_,N,B.trans A,λy a=>?_⟩
   rcases AR.mp a with rfl|a
   ·exact⟨c,o,Fz,b,o0,at3,i⟩
   ·obtain⟨G,f,E,M,L,K,J⟩:=z y a;exact⟨G,f,E,M,A _ _ L,K,J⟩
  ·refine⟨k,d,B,λy a=>?_⟩
   rcases AR.mp a with rfl|a
   ·obtain⟨D,C⟩:=d.hok c _ p;refine⟨c,f,u,b,p,λvs w=>?_,D⟩;subst w;obtain⟨_,F,n,_,m⟩:=C;rw[i]at m;cases m;cases t
   ·exact z y a
end
def aw8{l}(h:Ea l):l=[]\/∃i s j t v r,l=.int i s::.int j t::v::r/\Ea r:=by
 unfold Ea at h
 split at h
 ·exact .inl rfl
 ·exact .inr ⟨_,_,_,_,_,_,rfl,h⟩
 ·exact h.elim
theorem aw6{a b}{s t}{c}:∀(n:Nat)l,l.length<=n->Ea l->Ea (l++[.int a s,.int b t,c])
 |0,l,d,_=>by
  have:l=[]:=Bd ⋯;subst this;exact trivial
 |n+1,l,d,h=>by
  rcases aw8 h with rfl|⟨i,s',j,t',v,r,rfl,e⟩
  ·exact trivial
  ·simp only[AY]at d;exact(aw6 n r ⋯ e)
theorem ax6{pos:Pos}{cv:AF}{a b:Int}{s t:Tok}{c:AF}:∀(n:Nat)(l:List AF),l.length<=n->Ea l->Ga pos (l++[.int a s,.int b t,c])=AA cv->Ga pos l=AA cv\/cv=c
 |n,l,k,h,q=>by
  rcases aw8 h with rfl|⟨i,s',j,t',v,r,rfl,m⟩
  ·have h':(if a==pos.line&&b==pos.col then AA c else AE)=AA cv:=q
   split at h'
   ·simp_all
   ·cases h'
  ·cases n with
   |zero=>simp at k
   |succ n=>
    simp only[AY]at k;have d:(if i==pos.line&&j==pos.col then AA v else Ga pos (r++[.int a s,.int b t,c]))=AA cv:=q;show(if i==pos.line&&j==pos.col then AA v else Ga pos r)=AA cv\/cv=c
    split at d
    ·rename_i e;rw[if_pos e];exact .inl d
    ·rename_i e;rw[if_neg e];exact ax6 n r ⋯ m d
end
section
variable [Tbs]
abbrev M6(name qual:Str)(params:DM)(fb:Dj)(scope:BE)(cl:List (Str×AI))(doc pm cv ct:AF):BZ:=
 {name,qualname:=qual,params,body:=fb,scope,globals:=AK,closure:=cl,defaults:=.none,kwdefaults:=.none,doc:=doc,pyModule:=pm,annotations:=AE,code:=cv,closureTuple:=ct,builtins:=CL}
abbrev Q3(fd:BZ):Obj:={cls:=.type "function",data:=.func fd}
abbrev X3(mg:Str->Option AF)(h:Au):Prop:=∃bm ob,mg "__builtins__"=AA (.ref bm)/\bm≠CL/\h.get? bm=AA ob/\ob.cls=.type "module"/\ob.dict=AA CL/\ob.data=.plain
structure LamOk(X:Cx):Prop where
 tab:∃c P,X.env.code=.ref c/\W.CodeHd X.base c P/\P∈Tbs.ps
 bm:X3 X.mg X.base
section
variable {X:Cx} {pins:List (AI×Obj)} {σ:L2.St} {H:Hp} {s:AJ} {st:Sto}
structure Made(X:Cx)(pins:List (AI×Obj))(σ:L2.St)(H:Hp)(st:Sto)(f:AI)(fd:BZ)(H':Hp)(s':AJ):Prop where
 inv:L2.Inv X pins σ H' s'
 tk:TK X.K H H'
 ev:Ev st H st H'
 rs:RelS X.K st H'
 fn:H' f=AA (.frz (Q3 fd) Fz)
 cd:G7 H' fd.code
def a90{fd}{h':Au}{tk}(I:L2.Inv X pins σ H s)(c:RelS X.K st H)(d:∀b o,s.heap.get? b=AA o->h'.get? b=AA o)(hsz:s.heap.objs.size<=h'.objs.size)(f:G7 H fd.code):
  Made X pins σ H st h'.objs.size fd (upd H h'.objs.size (.frz (Q3 fd) Fz)) {s with heap:=h'.push (Q3 fd),toks:=tk}:=by
 have a:=I.hok.fresh hsz;exact⟨I.laid (λb o e=>AN _ (d b o e)) hsz (ah3 (Ar _ rfl)),TK.new a,Ev.new a,c.new a,o0,f.mono (K:=X.K) (TK.new a)⟩
def a61{P d:AI}{r:Array AF}{fd:BZ}{h':Au}{tk:Nat}{i j:Int}{F E:Tok}{q:Str}(I:L2.Inv X pins σ H s)(R:RelS X.K st H)(l:H P=AA (.tbl r))(O:TabOk H r)
  (hx:FU P s.heap h') (N:s.heap.objs.size<=d) (y:d<h'.objs.size) (hr:h'.CodeRec (.ref d) q) (W:h'.get? P=AA (Hn (r++#[.int i F,.int j E,.ref d]))) (M:fd.code=.ref d) :
  ∃g,Made X pins σ H st h'.objs.size fd g {s with heap:=h'.push (Q3 fd),toks:=tk}:=by
 obtain⟨c2,G,vs,t,e2,L,hd,hv⟩:=hr;cases e2;have hsz:s.heap.objs.size<=h'.objs.size:=HB (JJ N y);have U:H d=AE:=I.hok.fresh N;have T:H h'.objs.size=AE:=I.hok.fresh hsz;have cf:d≠h'.objs.size:=BI y;have cP:P≠d:=λz=>by rw[z,U]at l;cases l
 have fP:P≠h'.objs.size:=λz=>by rw[z,T]at l;cases l
 let g:Hp:=upd (upd (upd H d (.frz G Fz)) h'.objs.size (.frz (Q3 fd) Fz)) P (.tbl (r++#[.int i F,.int j E,.ref d]))
 have B:g P=AA (.tbl (r++#[.int i F,.int j E,.ref d])):=o0;have Z:g h'.objs.size=AA (.frz (Q3 fd) Fz):=by show upd _ _ _ _=_;rw[f9 (Ao fP)];exact o0
 have gc:g d=AA (.frz G Fz):=by show upd _ _ _ _=_;rw[f9 (Ao cP),f9 cf];exact o0
 have Q:∀b,b≠P->b≠h'.objs.size->b≠d->g b=H b:=λb x D C=>by show upd _ _ _ _=_;rw[f9 x,f9 D,f9 C]
 have f:∀b u,H b=AA u->b≠P->g b=AA u:=λb u e x=>by rw[Q b x (o7 e T) (o7 e U)];exact e
 have h:∀b u,H b=AA u->(∀r,u≠.tbl r)->b≠P:=λb u e n z=>by rw[z,l]at e;cases e;exact n _ rfl
 have A:∀b o,b≠P->s.heap.get? b=AA o->(h'.push (Q3 fd)).get? b=AA o:=λb o n e=>AN _ (hx b o n e);have m:TK X.K H g:=⟨⟨λa xs z=>by
  rcases z with(z|⟨o',z⟩)|z
  ·exact .inl (.inl (f _ _ z (h _ _ z λ_=>nofun)))
  ·exact .inl (.inr ⟨o',f _ _ z (h _ _ z λ_=>nofun)⟩)
  ·exact .inr z,λa xs z=>f _ _ z (h _ _ z λ_=>nofun)⟩,λa o u z _=>f _ _ z (h _ _ z λ_=>nofun)⟩
 have CF:G7 g (.ref d):=⟨d,G,Fz,vs,q,t,rfl,gc,at3,hd,hv⟩;refine⟨g,I.un (h':=h'.push (Q3 fd)) ⟨λb o e n _ _=>?_,λb o e n _ _=>?_,λb o e n _=>?_,λb o e _=>?_,λb xs e=>?_,λb o u e=>?_,λb S e=>?_⟩ (λb u e=>?_),m,λa o e k=>?_,⟨λa o e=>?_,λP0 hP0=>?_⟩,Z,by rw[M];exact CF⟩
 ·exact A b o (λz=>by rw[z,l]at n;cases n) e
 ·exact⟨o.slots,A b o (λz=>by rw[z,l]at n;cases n) e⟩
 ·have V:=Aq e;rw[Q b (λz=>by rw[z,l]at n;cases n) (BI (Ah V hsz)) (BI (Ah V N))];exact n
 ·by_cases p:b=P
  ·subst p;exact⟨_,AN _ W⟩
  ·exact⟨o,A b o p e⟩
 ·exact f _ _ e (h _ _ e λ_=>nofun)
 ·exact f _ _ e (h _ _ e λ_=>nofun)
 ·by_cases p:b=P
  ·subst p;rw[l]at e;cases e;exact⟨_,B⟩
  ·exact⟨#[],by rw[f _ _ e p];simp⟩
 ·by_cases x:b=P
  ·subst x;rw[B]at e;cases e;exact AN _ W
  by_cases D:b=h'.objs.size
  ·subst D;rw[Z]at e;cases e;exact ah3 (Ar _ rfl)
  by_cases C:b=d
  ·subst C;rw[gc]at e;cases e;exact ah3 (AN _ L)
  rw[Q b x D C]at e;refine(I.hok b u e).stay (λc v w z=>A c v ?_ z) (λa z=>f _ _ z (h _ _ z λ_=>nofun)) λa xs z=>f _ _ z (h _ _ z λ_=>nofun)
  rcases w with rfl|w
  ·exact x
  ·exact h _ _ w λ_=>nofun
 ·by_cases Y:a=P
  ·subst Y;rw[l]at e;cases e;exact⟨⟨_,B,.inr ⟨_,_,rfl,rfl⟩⟩,k⟩
  ·exact⟨⟨o,f _ _ e Y,.inl rfl⟩,k⟩
 ·have z:=R.ob a o e;obtain⟨u,J,hn⟩:=a84 z;have ea:g a=H a:=by rw[J];exact f _ _ J (h _ _ J hn)
  exact z.stay m ea
 ·by_cases p:P0=P
  ·subst p;refine⟨_,B,?_,λpos cv hcv=>?_⟩
   ·rw[Fc];exact aw6 _ _ (AX _) O.tr
   ·rw[Fc]at hcv
    rcases ax6 _ _ (AX _) O.tr hcv with z|z
    ·exact(O.co pos cv z).mono m
    ·rw[z];exact CF
  ·obtain⟨S,e,o⟩:=R.tb P0 hP0;exact⟨S,f _ _ e p,o.tr,λpos cv hcv=>(o.co pos cv hcv).mono m⟩
def b57{name qual}{params}{fb}{scope}{pos}{line}{cl}{Q}(I:L2.Inv X pins σ H s)(n:RelS X.K st H)(L:LamOk X)(i:IQ scope X.env=pure cl)
  (h:∀f g G cv ct B s',Made X pins σ H st f (M6 name qual params fb scope cl g G cv ct) B s'->Q (.ref f) s') :
  AQ (model X.prog X.w) X.A (makeFunction name qual params fb scope X.env [] [] [] pos line) Q X.xe s:=by
 obtain⟨c,P,a,C,x⟩:=L.tab;obtain⟨D,y,k⟩:=n.tb P x;have d:s.heap.get? P=AA (Hn D):=I.hok P _ y;have m:=I.mod.glob.keeps I.bk;have p:AK≠P:=λz=>by
  obtain⟨o,J,N,e,t,_⟩:=m;rw[z,d]at e;cases e;cases t
 have u:s.heap.BuiltinsAt X.mg P:=by
  obtain⟨O,ob,V,U,T,S,R,F⟩:=L.bm;have r:=I.bk _ _ T;refine⟨O,ob,V,U,λz=>?_,λz=>?_,r,S,R,F⟩
  ·obtain⟨o,J,N,e,t,_⟩:=m;rw[<-z,r]at e;cases e;rw[F]at t;cases t
  ·lia
 have v:=C.keeps I.bk;cases hh:Ga pos D.toList with
 |none=>
  cases fb with
  |stmts b=>
   refine W.makeFunction_K i I.ok.glob m a v d k.tr hh p u λc' ct g h' tk hx hc hlt hr ht=>?_;obtain⟨B,M⟩:=a61 (fd:=M6 name qual params (.stmts b) scope cl g ((X.mg "__name__").getD .none) (.ref c') ct) I n y k hx hc hlt hr ht rfl;exact h _ _ _ _ _ _ _ M
  |expr b=>
   refine W.kla_makeFunction i I.ok.glob m a v d k.tr hh p u λc' ct h' tk hx hc hlt hr ht=>?_;obtain⟨B,M⟩:=a61 (fd:=M6 name qual params (.expr b) scope cl .none ((X.mg "__name__").getD .none) (.ref c') ct) I n y k hx hc hlt hr ht rfl;exact h _ _ _ _ _ _ _ M
 |some cv=>
  have E:=k.co pos cv hh;cases fb with
  |stmts b=>
   refine W.makeFunction_hit i I.ok.glob m a v d k.tr hh u λct g h' tk hk hsz=>?_;exact h _ g ((X.mg "__name__").getD .none) cv ct _ _ (a90 I n hk hsz E)
  |expr b=>
   refine W.kla_makeFunctionHit i I.ok.glob m a v d k.tr hh u λct h' tk hk hsz=>?_;exact h _ .none ((X.mg "__name__").getD .none) cv ct _ _ (a90 I n hk hsz E)
end
end
section
variable [Tbs]
theorem a80{K}{H}{env}{σ}(f:RelE K H env σ):∀{cp}{b},O3 env cp=AA b ->
  ∃us:List V,IsDs K H b us/\us.length=cp.length/\∀(i:Nat)v,us[i]?=AA v->∃j,cp[i]?=AA j/\σ[j]?=AA (AA v)
 |[],b,h=>by
  cases h;exact⟨[],.nil,rfl,λi v z=>by simp at z⟩
 |j::cp,b,h=>by
  unfold O3 at h
  split at h
  ·rename_i d ds n m;cases h;obtain⟨us,r,l,a⟩:=a80 f m;obtain⟨v,k,g⟩:=f.at' j d n;refine⟨v::us,.cons g r,by simp[l],λi w z=>?_⟩;cases i with
   |zero=>simp at z;subst z;exact⟨j,rfl,k⟩
   |succ i=>simp_all
  ·cases h
structure NestOk(X:Cx)(params:DM)(fb:Dj)(scope:BE)(np:Nat)(N ps:List Str)(cp:List Nat)(b:Ss):Prop where
 sc:FnScC N ps scope
 lp:ps.length=np
 mt:Tbs.mt b scope N fb
 bind:∀(name qual:Str)(cl:List (Str×AI))(doc pm cv ct:AF)(us:List AF),us.length=ps.length->EF (M6 name qual params fb scope cl doc pm cv ct) ⟨us,[]⟩=pure (ps.zip us)
 cap:∀(i j:Nat),cp[i]?=AA j->∃x,X.N[j]?=AA x/\N[np+i]?=AA x/\(x,Aw)∈scope.names
 fre:∀x,(x,Aw)∈scope.names->(∃i:Nat,∃j:Nat,cp[i]?=AA j/\X.N[j]?=AA x)/\X.env.scope.names.lookup x=AA .cell/\X.fn x=AG/\X.ow x=AC
section
variable {X:Cx} {pins:List (AI×Obj)} {σ:L2.St} {H:Hp} {s:AJ} {st:Sto}
def cg6{name d:Str}{a:DM}{Y:Dj}{scope:BE}{pos:Pos}{q:Nat}{np:Nat}{N ps:List Str}{cp:List Nat}{b:Ss}{env:i9}{cs:List D}{Q:AF->AJ->Prop}
  (I:L2.Inv X pins σ H s) (rs:RelS X.K st H) (hE:RelE X.K H env σ) (L:LamOk X) (S:NestOk X a Y scope np N ps cp b) (E:O3 env cp=AA cs)
  (h:∀f G s',L2.Inv X pins σ G s'->TK X.K H G->Ev st H st G->RelS X.K st G->IsD X.K G (.clo np N b cs) (.ref f)->Q (.ref f) s') :
  AQ (model X.prog X.w) X.A (makeFunction name d a Y scope X.env [] [] [] pos q) Q X.xe s:=by
 obtain⟨us,z,J,F⟩:=a80 hE E
 let W:List Str:=(scope.names.filter λy=>y.2==.free).map (·.1)
 have g:∀x,x∈W↔(x,Aw)∈scope.names:=λx=>by
  simp only[W,DV,mem_filter,beq_iff_eq];constructor
  ·rintro⟨⟨y,k⟩,⟨V,h2⟩,rfl⟩;subst h2;exact V
  ·intro V;exact⟨(x,.free),⟨V,rfl⟩,rfl⟩
 have e:∀x,(x,Aw)∈scope.names->∃c,X.env.cells.lookup x=AA c:=λx hx=>I.ok.has x (.inl (S.fre x hx).2.1);obtain⟨H1,I1,Z,f1⟩:=ax8 I W λx hx=>⟨(S.fre x ((g x).mp hx)).2.2.1,(S.fre x ((g x).mp hx)).2.2.2,e x ((g x).mp hx)⟩;have U:IQ scope X.env=pure (w8 X.env.cells scope.names []):=am7 λy hy hk=>by
  obtain⟨y,k⟩:=y;subst hk;obtain⟨c,E⟩:=e y hy;simp only[E,IU]
 refine b57 I1 (bx7 rs Z) L U λf doc pm cv ct H2 s2 M=>?_;have tk:TK X.K H H2:=(bd2 Z).trans M.tk;have n:∀(j:Nat)x v,X.N[j]?=AA x->σ[j]?=AA (AA v)->(x,Aw)∈scope.names->∃c o u w,(w8 X.env.cells scope.names []).lookup x=AA c/\H2 c=AA (.frz o u)/\(∀vs,u≠.lst vs)/\o.data=.cell (AA w)/\i7 v w:=λj x v hN P hx=>by
  obtain⟨m,hn,hl⟩:=I1.loc;obtain⟨w,r,l⟩:=hl j x v hN P (.inr (.inl (S.fre x hx).2.1));obtain⟨c,o,u,a1,a2,a3,a4⟩:=f1 x ((g x).mpr hx)
  rcases l with⟨k1,_⟩|⟨_,c2,l1,o2,l2,l3⟩
  ·have t:X.env.scope.names.lookup x=AA .local:=k1;rw[(S.fre x hx).2.1]at t;cases t
  ·rw[a1]at l1;cases l1;rw[a4]at l2;cases l2;exact⟨c,o,u,w,af2 a1 hx,M.tk.2 _ _ _ a2 a3,a3,l3,r⟩
 have p:∀x c,(w8 X.env.cells scope.names []).lookup x=AA c->X.env.cells.lookup x=AA c/\(x,Aw)∈scope.names:=λx c hx=>O6 hx;refine h f H2 s2 M.inv tk ((b77 Z).trans M.ev) M.rs (.clo (us:=us) ⟨M6 name d a Y scope (w8 X.env.cells scope.names []) doc pm cv ct,ps,⟨S.sc,S.lp,S.mt,S.bind name d _ doc pm cv ct,rfl,rfl,λx hx=>?_,λx c hx=>(p x c hx).2,λx y c hx hy=>I.ok.inj x y c (p x c hx).1 (p y c hy).1⟩,⟨⟨_,_,M.fn,at3,rfl⟩,M.cd,λx c hx=>?_,λi v hv=>?_⟩⟩ (by rw[z.len]) (z.mono tk).at')
 ·obtain⟨c,E⟩:=e x hx;exact⟨c,af2 E hx⟩
 ·obtain⟨⟨i,j,hi,R⟩,_⟩:=S.fre x (p x c hx).2;have T:i<us.length:=by rw[J];exact(AT.mp hi).1
  obtain⟨j',C,O⟩:=F i _ (AO T);rw[hi]at C;cases C;obtain⟨c',o,u,w,b1,b2,b3,b4,b5⟩:=n j x _ R O (p x c hx).2;have B:(w8 X.env.cells scope.names []).lookup x=AA c:=hx;rw[b1]at B;cases B;exact⟨o,u,w,b2,b3,b4⟩
 ·obtain⟨j,R,P⟩:=F i v hv;obtain⟨x,n1,n2,n3⟩:=S.cap i j R;obtain⟨c,o,u,w,b1,b2,b3,b4,b5⟩:=n j x v n1 P n3;exact⟨x,c,o,u,w,n2,b1,b2,b3,b4,b5⟩
def cq9{name}{params}{body}{scope}{pos}{i np}{N ps}{cp}{b}(m:X.N.Nodup)(hi:X.N[i]?=AA name)(e:Loc X.env.scope name)(j:X.fn name=AC\/X.env.scope.names.lookup name=AA .local)
  (p:params.defaults=[]) (o:params.kw_defaults=[]) (n:∀env,annTrees params AE env=[]) (L:LamOk X) (S:NestOk X params (.stmts body) scope np N ps cp b) :
  PS X (.FunctionDef name params body [] AE [] scope AE name pos) (upS X.K λF env st=>∃a,O3 env cp=AA a/\F.nx (env.set i (AA (.clo np N b a))) st):=by
 intro c s r H F I q;obtain⟨env,st,t,d,l,⟨a,k,g⟩,h⟩:=q;exact W.nestDef_K p o (n _) (cg6 I l d L S k λf H' s' I' tk ev rs is=>V4 I' m hi e (v:=.ref f) rfl (λs2 I2=>⟨_,H',I2,h.nx _ _ H' st ev ((d.mono tk).set is i) rs g⟩) j)
end
end
section
variable [Tbs]
variable{w:At}{A:BG}{s:AJ}{fd:BZ}{vs:List V}{q:Str}{P:AZ}{mg:Str->Option AF}{base:Au}{N:List Str}{H:Hp}
abbrev b30(fb:Dj)(env:Env):Code:=match fb with
 |.stmts b=>.func b env
 |.expr e=>.expr e env
def b13{prog}{R}{a c}{args}{o oc}{vs}{t}(d:A.depth<IM)(u:s.heap.get? a=AA o)(l:o.data=.func fd)
  (m:fd.scope.isCoroutine=AG) (f:fd.scope.isGenerator=AG) (n:fd.code=.ref c) (j:s.heap.get? c=AA oc) (k:oc.data=.fields vs) (r:vs[1]?=AA (.str q t))
  (h:AQ (model prog w) A.in1 (EF fd args) (λbinds s₁=>
   AQ (model prog w) A.in1 (Lu fd.scope fd.globals fd.closure binds (q++".<locals>.") (AA a) fd.code AE fd.builtins)
    (λenv s₂=>s₂.heap.NoLimit/\Dz (model prog w) A (b30 fd.body env) R s₂) (λe s'=>R (.error e) s') s₁) (λe s'=>R (.error e) s') s) :
  Dz (model prog w) A (.call (.ref a) args) R s:=by
 refine Lc ?_;show AQ _ A.in1 (callAny (.ref a) args) _ _ s;refine AD (wpAny_load u ?_);simp only[l,callFunction,m,f,n];rw[n]at h;refine AD (Ay j k r (AD (AL ?_)));refine AD (BJ h (λbinds s₁ h₁=>AD (BJ h₁ (λenv s₂ h₂=>AD (wpAny_enterFrame h₂.1 d
  ?_)) λ_ _ h'=>h')) λ_ _ h'=>h')
 have g:=h₂.2;cases hb:fd.body with
 |stmts b=>rw[hb]at g;exact AL (IB rfl g)
 |expr e=>rw[hb]at g;exact AL (IB rfl g)
theorem ax9{x:Str}{u:AF}:∀{a:List Str}{us:List AF}{i:Nat},a.Nodup->a[i]?=AA x->us[i]?=AA u->(a.zip us).reverse.lookup x=AA u
 |[],_,_,_,h,_=>by simp at h
 |_::_,[],_,_,_,h=>by simp at h
 |p::a,w::us,i,f,c,b=>by
  rw[FD,Di,List.lookup_append];cases i with
  |zero=>
   simp at c b;subst c b;have:(a.zip us).reverse.lookup p=AE:=by
    rw[List.lookup_eq_none_iff];intro y j;have:=(Gv (List.mem_reverse.mp j)).1;have g:p≠y.1:=λz=>(BR.mp f).1 (z▸this);simpa using g
   rw[this];simp[DP]
  |succ i=>
   rw[ax9 (i:=i) (BR.mp f).2 (by simpa using c) (by simpa using b)];rfl
abbrev cxC(bX:Bool)(P:AZ)(w:At)(K:AM)(mg:Str->Option AF)(base:Au)(N:List Str)(scope:BE)(cl:List (Str×AI))(q:Str)(f:AI)(cd:AF)(A:BG)(outer:List Env)(s:AJ)(H:Hp):Cx where
 prog:=P
 w:=w
 K:=K
 mg:=mg
 base:=base
 A:=A.deeper (KP scope s.heap.objs.size AK cl (q++".<locals>.") (AA f) cd AE CL)
 N:=N
 s₀:=s
 H₀:=H
 env:=KP scope s.heap.objs.size AK cl (q++".<locals>.") (AA f) cd AE CL
 outer:=outer
 stack:=KP scope s.heap.objs.size AK cl (q++".<locals>.") (AA f) cd AE CL::outer
 ex:=[]
 calm:=AC
 fn:=λy=>!(scope.names.any λz=>z.1==y&&z.2==.free)
 pn:=[]
 xe:=λe s'=>AQ (model P w) (A.deeper (KP scope s.heap.objs.size AK cl (q++".<locals>.") (AA f) cd AE CL)) (leaving (KP scope s.heap.objs.size AK cl (q++".<locals>.") (AA f) cd AE CL) e) (λ_ s''=>CXk P w K bX outer H s E0 e s'') (λe' s''=>CXk P w K bX outer H s E0 e' s'') s'
def bh5{bX}{K}{scope}{cl}{f}{cd}{outer}:FrX (cxC bX P w K mg base N scope cl q f cd A outer s H) "NoKind" z5 bX:=⟨rfl,rfl,rfl,rfl⟩
def bq5{bX:Bool}{K:AM}{B:List Str}{np:Nat}{b:Ss}{f:AI}{g:List Env}{k:Au}{tk:Nat}{us:List AF}{d:List V}
  (t:CloF fd np N B b) (Q:CloR H f fd np N d) (hd:A.handled=AE) (j:Env0 P w K mg base A g s H) (hl:vs.length=B.length) (r:g9 vs us)
  (U:k.Ns s.heap.objs.size (λx=>(B.zip us).reverse.lookup x)) (X:∀b o,s.heap.get? b=AA o->k.get? b=AA o) :
  Inv (cxC bX P w K mg base N fd.scope fd.closure q f fd.code A g s H) [] (A5 N (vs++d)) H {s with heap:=k,toks:=tk}:=by
 have S:=t.sc;have n:∀b:AI,b∉(cxC bX P w K mg base N fd.scope fd.closure q f fd.code A g s H).ex:=λb z=>absurd (show b∈([]:List AI) from z) ∎;have hpl:B.length<=N.length:=by have:=congrArg Gw S.pre;rw[DE]at this;lia
 have hful:(vs++d).length<=N.length:=by
  rw[Ap,hl];cases hu:d.length with
  |zero=>lia
  |succ m=>
   have W:m<d.length:=by lia
   obtain⟨x,_,_,_,_,L,_⟩:=Q.at' m _ (AO W);have:=(AT.mp L).1;have:=t.np;lia
 have G:∀x c,fd.closure.lookup x=AA c->(!(fd.scope.names.any λz=>z.1==x&&z.2==.free))=AG:=λx c h=>by
  have W:=t.fre x c h;have:(fd.scope.names.any λz=>z.1==x&&z.2==.free)=AC:=Hj.mpr ⟨(x,.free),W,∎⟩;rw[this];rfl
 have l:∀{c:AI}{o:Obj}{u:HO},H c=AA (.frz o u)->k.get? c=AA o:=λ{c o u}e=>by
  obtain⟨z,_⟩:=j.hok c _ e;exact X _ _ z
 refine⟨⟨j.mod,S.kind,rfl,rfl,AX _,λy z c k h2=>t.inj y z c k h2,λy E=>?_,λy c h hc=>?_,λ_=>hd,Hs j.frames,.inr ⟨rfl,rfl⟩,λb z=>absurd z (n b),j.bs,j.bsz,λb _ _=>n b,λb z=>absurd z (n b),j.funs,j.frf⟩,
  rfl,j.bare,Un.kept X,⟨_,U,λi y v k h2 h3=>?_⟩,λy c h=>?_,j.hok.fresh (AX _),λy c h=>?_,λp M=>absurd (show p ∈ ([]:List (AI × Obj)) from M) ∎,j.hok.kept X,?_⟩
 ·rcases E with E|E
  ·exact absurd rfl (S.nocell _ (PySem.mem_of_lookup E))
  ·exact t.has y (PySem.mem_of_lookup E)
 ·have Y:fd.closure.lookup y=AA c:=hc
  rcases h with h|h
  ·have h':(!(fd.scope.names.any λz=>z.1==y&&z.2==.free))=AC:=h;rw[G y c Y]at h';cases h'
  ·cases h
 ·have hi:i<(vs++d).length:=by
   unfold L2.A5 at h2
   by_cases hi:i<(vs++d).length
   ·exact hi
   ·rw[An (by simpa using hi)]at h2;rw[Da]at h2
    split at h2<;>cases h2
  have O:(vs++d)[i]?=AA v:=by
   unfold L2.A5 at h2;rw[Aa (by simpa using hi),Ak]at h2;cases e:(vs++d)[i]? with
   |none=>rw[e]at h2;cases h2
   |some a=>rw[e]at h2;cases h2;rfl
  have F:N[i]?=AA y:=k
  by_cases hv:i<vs.length
  ·rw[Aa hv]at O;obtain⟨u,hu,rv⟩:=r.get O;have M:B[i]?=AA y:=by
    rw[<-S.pre,Hf ⋯];exact F
   have T:B.Nodup:=by rw[<-S.pre];exact S.nd.sublist (JE _ _)
   exact⟨u,rv,.inl ⟨S.par y (Az M),ax9 T M hu⟩⟩
  ·rw[An ⋯]at O;obtain⟨x,c,C,R,I,L,n2,D,n4,J,n6⟩:=Q.at' _ v O;have e:np+(i-vs.length)=i:=by have:=t.np;lia
   rw[e,F]at L;cases L;exact⟨I,n6,.inr ⟨.inr (S.fre _ (t.fre y c n2) rfl),c,n2,C,l D,J⟩⟩
 ·obtain⟨C,R,I,D,n4,J⟩:=Q.cl y c h;exact⟨AA I,C,l D,J⟩
 ·obtain⟨C,R,I,D,n4,J⟩:=Q.cl y c h;exact .inr ⟨G y c h,C,R,D⟩
 ·unfold L2.A5;show _=N.length;rw[Ap,AV,FG];lia
abbrev ck0(X:Cx)(fb:Dj)(Z:Sg)(b:Ss):Prop:=match fb with
 |.stmts l=>PSs X l (upS X.K (i5 Z b))
 |.expr x=>∃e,b=.cons (.ret e) .nil/\PE X x (up X.K (wpE Z e))
def ay3{K}{ds}(r:IsDs K H ds vs):RelE K H (ds.map AA++Cq (N.length-ds.length) AE) (L2.A5 N vs):=by
 refine⟨by simp[L2.A5,r.len],λi x h=>?_⟩;unfold L2.A5
 by_cases hi:i<ds.length
 ·rw[Aa (by simp_all),Ak,AO hi]at h;simp only[Gq,Bj]at h;obtain⟨v,a,b⟩:=r.get (AO hi);refine⟨v,?_,by simp_all⟩;rw[Aa (by rw[AV,<-r.len];exact hi),Ak,a];rfl
 ·rw[An (by simp_all),Da]at h
  split at h<;>cases h
def br9{K}{ds cs}{us}(r:IsDs K H ds vs)(a:IsDs K H cs us):RelE K H (G5 N ds cs) (L2.A5 N (vs++us)):=ay3 (r.append a)
def co9{bX:Bool}{K:AM}{n np:Nat}{p:AI}{L:List Str}{b:Ss}{B:List D}{Z:Sg}(C:CloF fd np N L b)
  (k:∀(q:Str)(A:BG)(f:List Env)(s:AJ)(H:Hp),Room n (cxC bX P w K mg base N fd.scope fd.closure q p fd.code A f s H).A->ck0 (cxC bX P w K mg base N fd.scope fd.closure q p fd.code A f s H) fd.body Z b) :
  FnOk P w K mg base (CXk P w K bX) (n+1) p fd L (X0 K p fd np N B λds st Q=>ds.length=np/\i5 Z b {nx:=λ_ a=>∃i,Sub i a/\Q .non i,rt:=λd a=>∃i,Sub i a/\Q d i} (G5 N ds B) st):=by
 refine⟨λvs H Q E hsp=>?_,λA f s H args us vs Q E hr e0 hb r hsp=>?_⟩
 ·obtain⟨F,ds,st,Qd,X,M,U,rs,h,hq⟩:=hsp;rw[<-U.len,h.1,C.np]
 ·obtain⟨F,ds,st,Qd,X,M,U,rs,⟨R,h⟩,hq⟩:=hsp;have S:=C.sc;have hl:vs.length=L.length:=by rw[<-U.len,R,C.np]
  have lim:s.heap.NoLimit:=e0.mod.nolimit.keeps λb o e=>(e0.bs b o e).1;obtain⟨o,u,f1,f2,f3⟩:=X.ex;obtain⟨c,oc,uc,vc,q,t,c1,c2,c3,c4,c5⟩:=X.cd;obtain⟨ho,_⟩:=e0.hok p _ f1;obtain⟨hoc,_⟩:=e0.hok c _ c2;have O:∀y∈L.zip us,fd.scope.names.lookup y.1=AA .local:=λ⟨x,v⟩hy=>S.par x (Gv hy).1;refine b13 hr.depth ho f3 S.co S.gen c1 hoc c4 c5 (hb _ _ _ _ ?_);rw[C.gl,C.bl];refine Jc S.nocell O (λh1 hns hsb=>?_) S.kind;have hk:∀b o,s.heap.get? b=AA o->h1.get? b=AA o:=λb o e=>hsb.extBut b o (BI (Aq e)) (AN _ e);refine⟨lim.keeps hk,?_⟩;have I:=bq5 (bX:=bX) (q:=q) (tk:=s.toks+(L.zip us).length) C X hr.hd e0 hl r hns hk;have m:=k q A f s H (hr.deeper _);have T:RelE K H (G5 N ds B) (A5 N (vs++F)):=br9 U M;have fin:∀{j:L2.St}{g:Hp}{v:V}{u:AF}{s':AJ},Inv (cxC bX P w K mg base N fd.scope fd.closure q p fd.code A f s H) [] j g s'->i7 v u->Q v g->CE f P w H s Q u s':=
   λ{j g v u s'}J G q=>⟨v,g,J.os,J.bare,J.base,J.hok,G,q⟩
  have rt:∀v d g a,Ev st H a g->IsD K g d v->RelS K a g->(∃i,Sub i a/\Qd d i)->Q v g:=λv d g a ev is' rs'⟨i,sub,q⟩=>hq v d g i (ev.drop sub) is' (rs'.sub sub) q;cases hfb:fd.body with
  |stmts l=>
   rw[hfb]at m;refine codeAny_func (BJ (m [] _ _ H {nx:=λ_ g=>Q .non g,rt:=Q} I ⟨G5 N ds B,st,_,T,rs,h,λenv σ g a ev T hS q=>rt _ .non g a ev .non hS q,λenv σ g a ev T hS q=>q.elim,λenv σ g a ev T hS q=>q.elim,λv e g a ev is' rs' q=>rt v e g a ev is' rs' q⟩) (λfl s' h=>?_) λe s' z=>z);cases fl with
   |ret u=>
    obtain⟨v,j,g,J,G,q⟩:=h;exact fin J G q
   |next=>
    obtain⟨j,g,J,q⟩:=h;exact fin (v:=V.non) (u:=BX) J rfl q
   |brk=>
    obtain⟨_,_,_,q⟩:=h;exact AU q
   |cont=>
    obtain⟨_,_,_,q⟩:=h;exact AU q
  |expr x=>
   rw[hfb]at m;obtain⟨e,rfl,m⟩:=m;refine W.kla_codeExpr (BJ (m [] _ _ H Q I ⟨G5 N ds B,st,_,T,rs,(show wpE Z e (G5 N ds B) st _ from h),λv d g a ev is' rs' q=>rt v d g a ev is' rs' q⟩) (λu s' h=>?_) λe s' z=>z);obtain⟨v,g,J,G,q⟩:=h;exact fin J G q
end
section
variable [Tbs]
variable{x:AS}{C:AS->Prop}{g m:Str}{sc:BE}
abbrev V5:List Str:=["len","abs","int","sum","list","tuple","isinstance","max","range","enumerate","reversed","str","bool","min","sorted","zip","any","dict"]
abbrev isM(f:Str):Bool:=f.cps.contains 46
structure FOk(X:Cx)(b:Bool)(f:Str)(sp:Spec):Prop where
 ex:∃k a fd ps,FnOk X.prog X.w X.K X.mg X.base (CXz X b) k a fd ps (t5 X.K sp)/\Room k X.A/\X.mg f=AA (.ref a)/\BQ X.K (.ref a)=AC/\o8 X.K fd ps []/\Ae X.K AK f=AA (AA (.ref a))
abbrev v4:Str:=⟨#[33]⟩
abbrev z4(x:Str):Str:=⟨#[33]++x.cps⟩
abbrev ae8(p:DM):Option (List Str):=if p.posonlyargs.isEmpty&&p.vararg.isNone&&p.kwonlyargs.isEmpty&&p.kw_defaults.isEmpty&&p.kwarg.isNone&&p.defaults.isEmpty&&p.args.all (·.annotation.isNone)&&AB (p.args.map (·.arg)).Nodup&&!p.args.isEmpty&&AB (p.args.length<=3)then AA (p.args.map (·.arg))else AE
abbrev as8(sc:BE)(N:List Str)(scope:BE)(Nl ps:List Str)(np:Nat)(cp:List Nat):Bool:=
 (ps.length==np)&&(scope.kind==.function)&&!scope.isCoroutine&&!scope.isGenerator&&decide Nl.Nodup&&(Nl.take ps.length==ps)&&ps.all (λx=>scope.names.lookup x==AA .local)&&scope.names.all (λy=>!(y.2==.cell))&&
 scope.names.all (λy=>!(y.2==.free)||(scope.names.lookup y.1==AA .free&&sc.names.lookup y.1==AA .cell&&N.contains (z4 y.1)&&(DN cp.length).any λi=>match cp[i]? with|some j=>N[j]?==AA y.1|none=>AG))&&
 (DN cp.length).all (λi=>match cp[i]? with|some j=>(match N[j]? with|some x=>(Nl[np+i]?==AA x)&&scope.names.any (λz=>z.1==x&&z.2==.free)|none=>AG)|none=>AG)
abbrev glb(sc:BE)(f:Str):Bool:=sc.names.lookup f==AA .globalImplicit
abbrev ab8(sc:BE)(x:Str):Bool:=match sc.names.lookup x with
 |some .local=>AC|some .cell=>AC|some .free=>AC|_=>AG
abbrev O2(sc:BE)(x:Str):Bool:=match sc.names.lookup x with
 |some .local=>AC|some .cell=>AC|_=>AG
abbrev lcl(sc:BE)(x:Str):Bool:=sc.names.lookup x==AA .local
abbrev okN(x:Str):Bool:=!(x==("__debug__":Str))&&!(x==("__classdict__":Str))
abbrev bh9(x:AS):Bool:=!([22,26,7].contains x.ctorIdx)
abbrev D7(x:AS):Bool:=!(x.ctorIdx==5)
abbrev U3(x:AS):Bool:=!([8,9,10].contains x.ctorIdx)
abbrev av1(scope sc:BE):BE:=
 {scope with names:=scope.names.map λ(n,k)=>if(k==.free&&sc.kind==.function&&sc.names.lookup n==AA .cell)then(n,.cell)else(n,k)}
abbrev aa4(sc scope:BE)(N Nc:List Str)(fr:List Nat)(k:Nat):Bool:=
 (scope.kind==.function)&&scope.names.all (λy=>!(y.2==.cell))&&scope.names.all (λy=>!(y.2==.local)||scope.names.lookup y.1==AA .local)&&
 scope.names.all (λy=>!(y.2==.free)||sc.names.lookup y.1==AA .cell||sc.names.lookup y.1==AA .free)&&scope.names.all (λy=>!(y.2==.free)||!(scope.names.any λz=>z.1==y.1&&z.2==.local))&&
 decide Nc.Nodup&&!(Nc.contains v4)&&(Nc.length==fr.length+k)&&((DN fr.length).all λi=>match Nc[i]?,fr[i]? with
  |some x,AA j=>(N[j]?==AA x)&&scope.names.any (λz=>z.1==x&&z.2==.free)|_,_=>AG)
def an{a b:Bool}(h:(a&&b)=AC):a=AC/\b=AC:=FW.1 h
def nt{b}(h:(!b)=AC):b=AG:=by grind
def dE{p}[Decidable p]{f:p->Bool}{C:Prop}(h:(if h:p then f h else AG)=AC)(H:∀e,f e=AC->C):C:=by
 lia
abbrev xBo(x:AS)(k:MD->List AS->Pos->Bool):Bool:=if h:x.ctorIdx=0 then Fe x h k else AG
def bl9{k}(h:xBo x k=AC)(H:∀o l p,k o l p=AC->C (.BoolOp o l p)):C x:=
 dE h λe=>Fe x e (λo l p _=>H o l p) e
abbrev xBi(x:AS)(k:AS->FP->AS->Pos->Bool):Bool:=if h:x.ctorIdx=2 then GD x h k else AG
def c90{k}(h:xBi x k=AC)(H:∀a o b p,k a o b p=AC->C (.BinOp a o b p)):C x:=
 dE h λe=>GD x e (λa o b p _=>H a o b p) e
abbrev xU(x:AS)(k:UnaryOp->AS->Pos->Bool):Bool:=if h:x.ctorIdx=3 then FJ x h k else AG
def xU_{k}(h:xU x k=AC)(H:∀o a p,k o a p=AC->C (.UnaryOp o a p)):C x:=
 dE h λe=>FJ x e (λo a p _=>H o a p) e
abbrev xIf(x:AS)(k:AS->AS->AS->Pos->Bool):Bool:=if h:x.ctorIdx=5 then GE x h k else AG
def dc4{k}(h:xIf x k=AC)(H:∀a b c p,k a b c p=AC->C (.IfExp a b c p)):C x:=
 dE h λe=>GE x e (λa b c p _=>H a b c p) e
abbrev xD(x:AS)(k:List (Option AS)->List AS->Pos->Bool):Bool:=if h:x.ctorIdx=6 then Gh x h k else AG
def xD_{k}(h:xD x k=AC)(H:∀a b p,k a b p=AC->C (.Dict a b p)):C x:=
 dE h λe=>Gh x e (λa b p _=>H a b p) e
abbrev xLC(x:AS)(k:AS->List Il->BE->Pos->Bool):Bool:=if h:x.ctorIdx=8 then Et x h k else AG
def de0{k}(h:xLC x k=AC)(H:∀a g s p,k a g s p=AC->C (.ListComp a g s p)):C x:=
 dE h λe=>Et x e (λa g s p _=>H a g s p) e
abbrev xCm(x:AS)(k:AS->List EO->List AS->Pos->Bool):Bool:=if h:x.ctorIdx=15 then FK x h k else AG
def de2{k}(h:xCm x k=AC)(H:∀a o b p,k a o b p=AC->C (.Compare a o b p)):C x:=
 dE h λe=>FK x e (λa o b p _=>H a o b p) e
abbrev xCa(x:AS)(k:AS->List AS->List Hu->Pos->Bool):Bool:=if h:x.ctorIdx=16 then Gi x h k else AG
def db3{k}(h:xCa x k=AC)(H:∀f a w p,k f a w p=AC->C (.Call f a w p)):C x:=
 dE h λe=>Gi x e (λf a w p _=>H f a w p) e
abbrev xK(x:AS)(k:Const->Nat->Pos->Bool):Bool:=if h:x.ctorIdx=19 then Eu x h k else AG
def xK_{k}(h:xK x k=AC)(H:∀c n p,k c n p=AC->C (.Constant c n p)):C x:=
 dE h λe=>Eu x e (λc n p _=>H c n p) e
abbrev xA(x:AS)(k:AS->Str->Pos->Bool):Bool:=if h:x.ctorIdx=20 then Ec x h k else AG
def xA_{k}(h:xA x k=AC)(H:∀a f p,k a f p=AC->C (.Attribute a f p)):C x:=
 dE h λe=>Ec x e (λa f p _=>H a f p) e
abbrev xS(x:AS)(k:AS->AS->Pos->Bool):Bool:=if h:x.ctorIdx=21 then Ed x h k else AG
def xS_{k}(h:xS x k=AC)(H:∀a b p,k a b p=AC->C (.Subscript a b p)):C x:=
 dE h λe=>Ed x e (λa b p _=>H a b p) e
abbrev xN(x:AS)(k:Str->Pos->Bool):Bool:=if h:x.ctorIdx=23 then Gj x h k else AG
def xN_{k}(h:xN x k=AC)(H:∀y p,k y p=AC->C (.Name y p)):C x:=
 dE h λe=>Gj x e (λy p _=>H y p) e
abbrev xL(x:AS)(k:List AS->Pos->Bool):Bool:=if h:x.ctorIdx=24 then Gk x h k else AG
def xL_{k}(h:xL x k=AC)(H:∀l p,k l p=AC->C (.List l p)):C x:=
 dE h λe=>Gk x e (λl p _=>H l p) e
abbrev xT(x:AS)(k:List AS->Nat->Pos->Bool):Bool:=if h:x.ctorIdx=25 then GF x h k else AG
def xT_{k}(h:xT x k=AC)(H:∀l n p,k l n p=AC->C (.Tuple l n p)):C x:=
 dE h λe=>GF x e (λl n p _=>H l n p) e
abbrev xSl(x:AS)(k:Option AS->Option AS->Option AS->Pos->Bool):Bool:=if h:x.ctorIdx=26 then GH x h k else AG
def bk4{k}(h:xSl x k=AC)(H:∀l u s p,k l u s p=AC->C (.Slice l u s p)):C x:=
 dE h λe=>GH x e (λl u s p _=>H l u s p) e
abbrev l1{α:Type}(l:List α)(k:α->Bool):Bool:=DW (motive:=λ_=>Bool) l AG λp r=>r.isEmpty&&k p
def l1_{α}{l}{k}{C:List α->Prop}(h:l1 l k=AC)(H:∀p,k p=AC->C [p]):C l:=
 match l,h with
 |[p],h=>H p h
abbrev l2{α:Type}(l:List α)(k:α->α->Bool):Bool:=DW (motive:=λ_=>Bool) l AG λp r=>l1 r (k p)
def l2_{α}{l}{k}{C:List α->Prop}(h:l2 l k=AC)(H:∀p q,k p q=AC->C [p,q]):C l:=
 match l,h with
 |p::r,h=>l1_ (C:=λr=>C (p::r)) h λq=>H p q
abbrev lb(l:List AS)(k:AS->AS->Bool)(m:AS->List AS->Bool):Bool:=DW (motive:=λ_=>Bool) l AG λp r=>if r.length=1 then l1 r (k p)else AB (2<=r.length)&&m p r
abbrev xKc(x:AS)(c:Const):Bool:=xK x λd _ _=>d==c
def U6{c}(h:xKc x c=AC)(H:∀n p,C (.Constant c n p)):=
 xK_ h λd n p e=>beq_iff_eq.1 e▸H n p
abbrev M4(x:AS)(g:Str):Bool:=xN x λy _=>y==g
def N8(h:M4 x g=AC)(H:∀p,C (.Name g p)):=
 xN_ h λy p e=>beq_iff_eq.1 e▸H p
abbrev xCl(x:AS)(k:AS->List AS->Pos->Bool):Bool:=xCa x λf a w p=>w.isEmpty&&k f a p
def aj0{k}(h:xCl x k=AC)(H:∀f a p,k f a p=AC->C (.Call f a [] p)):C x:=
 db3 h λf a w p h=>by
  simp_all
abbrev O0(x:AS):Bool:=!(xCl x λf a _=>a.isEmpty&&xN f λ_ _=>AC)
abbrev xG(g:Str)(sc:BE)(x:AS)(k:List AS->Bool):Bool:=xCl x λf a _=>M4 f g&&(glb sc g&&k a)
def xG_{k}{C:AS->Prop}(h:xG g sc x k=AC)(H:∀q a p,glb sc g=AC->k a=AC->C (.Call (.Name g q) a [] p)):=
 aj0 h λf a p h=>N8 (C:=λf=>C (.Call f a [] p)) (an h).1 λq=>H q a p (an (an h).2).1 (an (an h).2).2
abbrev xC1(g:Str)(sc:BE)(x:AS)(k:AS->Bool):Bool:=xG g sc x λa=>l1 a k
def D9{k}{C:AS->Prop}(h:xC1 g sc x k=AC)(H:∀q a p,glb sc g=AC->k a=AC->C (.Call (.Name g q) [a] [] p)):=
 xG_ h λq a p h1 h=>l1_ (C:=λa=>C (.Call (.Name g q) a [] p)) h λa=>H q a p h1
abbrev xC2(g:Str)(sc:BE)(x:AS)(k:AS->AS->Bool):Bool:=xG g sc x λa=>l2 a k
def ab6{k}{C:AS->Prop}(h:xC2 g sc x k=AC)(H:∀q a b p,glb sc g=AC->k a b=AC->C (.Call (.Name g q) [a,b] [] p)):=
 xG_ h λq a p h1 h=>l2_ (C:=λa=>C (.Call (.Name g q) a [] p)) h λa b=>H q a b p h1
abbrev xM(m:Str)(x:AS)(k:AS->List AS->Bool):Bool:=xCl x λf a cp=>xA f λo n ap=>(n==m)&&((ap.endLine==cp.line)&&k o a)
def xM_{k}{C:AS->Prop}(h:xM m x k=AC)(H:∀o ap a cp,(ap.endLine==cp.line)=AC->k o a=AC->C (.Call (.Attribute o m ap) a [] cp)):=
 aj0 h λf a cp h=>xA_ (C:=λf=>C (.Call f a [] cp)) h λo n ap h=>beq_iff_eq.1 (an h).1▸H o ap a cp (an (an h).2).1 (an (an h).2).2
abbrev xM0(m:Str)(x:AS)(k:AS->Bool):Bool:=xM m x λo a=>a.isEmpty&&(O0 o&&k o)
def bl4{k}(h:xM0 m x k=AC)(H:∀o ap cp,(ap.endLine==cp.line)=AC->O0 o=AC->k o=AC->C (.Call (.Attribute o m ap) [] [] cp)):=
 xM_ h λo ap a cp e h=>by
  cases a with
  |nil=>exact H o ap cp e (an (an h).2).1 (an (an h).2).2
  |cons=>exact(AH h).elim
abbrev xM1(m:Str)(x:AS)(k j:AS->Bool):Bool:=xM m x λo a=>l1 a λp=>O0 o&&(k o&&j p)
def X8{k j}{C:AS->Prop}(h:xM1 m x k j=AC)(H:∀o ap p cp,(ap.endLine==cp.line)=AC->O0 o=AC->k o=AC->j p=AC->C (.Call (.Attribute o m ap) [p] [] cp)):=
 xM_ h λo ap a cp e h=>l1_ (C:=λa=>C (.Call (.Attribute o m ap) a [] cp)) h λp h=>H o ap p cp e (an h).1 (an (an h).2).1 (an (an h).2).2
abbrev xCo(x:AS)(k:EO->AS->AS->Bool):Bool:=xCm x λa o b _=>l1 o λo=>l1 b λb=>k o a b
def ai2{k}{C:AS->Prop}(h:xCo x k=AC)(H:∀o a b p,k o a b=AC->C (.Compare a [o] [b] p)):=
 de2 h λa o b p h=>l1_ (C:=λo=>C (.Compare a o b p)) h λo h=>l1_ (C:=λb=>C (.Compare a [o] b p)) h λb=>H o a b p
abbrev mTg(ow:Bool)(t:Tg)(sc:BE)(N:List Str)(x:AS):Bool:=match t with
 |.n i=>xN x λy _=>(N[i]?==AA y)&&O2 sc y&&((ow&&!(N.contains (z4 y)))||lcl sc y)
 |.tup is=>xT x λes _ _=>(is.length==es.length)&&((is.zip es).all λp=>xN p.2 λy _=>(N[p.1]?==AA y)&&O2 sc y&&((ow&&!(N.contains (z4 y)))||lcl sc y))
abbrev mKs:List Str->List (Option AS)->Bool
 |[],l=>l.isEmpty
 |k::ks,l=>DW (motive:=λ_=>Bool) l AG λx r=>DR (motive:=λ_=>Bool) x AG λx=>xKc x (.str k)&&mKs ks r
abbrev oE(lo:E)(m:AS->Bool)(l:Option AS):Bool:=DR (motive:=λ_=>Bool) l lo.isNon λl=>!lo.isNon&&m l
abbrev cE(c:E)(m:AS->Bool)(l:List AS):Bool:=if l.isEmpty then c.isNon else l1 l λx=>!c.isNon&&(D7 x&&m x)
abbrev bl5(ks:List Str)(vs:Es):Bool:=(ks.length==vs.len)&&(decide ks.Nodup&&(AB (ks.length<=15)&&!ks.isEmpty))
mutual
noncomputable def mE:E->BE->List Str->AS->Bool
 |.non,_,_,x=>xKc x .none
 |.bl b,_,_,x=>xKc x (.bool b)
 |.int i,_,_,x=>xKc x (.int i)
 |.str y,_,_,x=>xKc x (.str y)
 |.v i,sc,N,x=>xN x λy _=>(N[i]?==AA y)&&(ab8 sc y&&okN y)
 |.tup es,sc,N,x=>xT x λxs _ _=>mEs es sc N xs&&AB (es.len<=1000)
 |.lst es,sc,N,x=>xL x λxs _=>mEs es sc N xs&&AB (es.len<=1000)
 |.bin o a b,sc,N,x=>xBi x λp q r _=>(q==o)&&(mE a sc N p&&mE b sc N r)
 |.neg a,sc,N,x=>xU x λo p _=>(o==.USub)&&mE a sc N p
 |.cmp o a b,sc,N,x=>xCo x λq p r=>(q==o)&&(mE a sc N p&&mE b sc N r)
 |.isN a,sc,N,x=>xCo x λq p r=>(q==.Is)&&(xKc r .none&&mE a sc N p)
 |.notN a,sc,N,x=>xCo x λq p r=>(q==.IsNot)&&(xKc r .none&&mE a sc N p)
 |.and a b,sc,N,x=>xBo x λo l ps=>(o==.And)&&lb l (λp q=>mE a sc N p&&mE b sc N q&&D7 p&&D7 q) (λp r=>mE a sc N p&&mE b sc N (.BoolOp .And r ps)&&D7 p)
 |.or a b,sc,N,x=>xBo x λo l ps=>(o==.Or)&&lb l (λp q=>mE a sc N p&&mE b sc N q&&D7 p&&D7 q) (λp r=>mE a sc N p&&mE b sc N (.BoolOp .Or r ps)&&D7 p)
 |.not a,sc,N,x=>xU x λo p _=>(o==.Not)&&(mE a sc N p&&D7 p)
 |.ite c a b,sc,N,x=>xIf x λp q r _=>(mE c sc N p&&D7 p)&&(mE a sc N q&&mE b sc N r)
 |.ix a b,sc,N,x=>xS x λp q _=>mE a sc N p&&mE b sc N q
 |.sl a lo hi,sc,N,x=>xS x λp s _=>mE a sc N p&&xSl s λl h st _=>st.isNone&&(oE lo (mE lo sc N) l&&oE hi (mE hi sc N) h)
 |.slw a lo hi,sc,N,x=>xS x λp s _=>mE a sc N p&&xSl s λl h st _=>st.isNone&&(oE lo (mE lo sc N) l&&oE hi (mE hi sc N) h)
 |.dsel ks vs k,sc,N,x=>xS x λd q _=>mE k sc N q&&xD d λkeys xs _=>mKs ks keys&&(mEs vs sc N xs&&bl5 ks vs)
 |.gget g k d,sc,N,x=>xM "get" x λo a=>M4 o g&&(glb sc g&&(okN g&&l2 a λp q=>mE k sc N p&&mE d sc N q))
 |.gsel g k,sc,N,x=>xS x λn q _=>M4 n g&&(glb sc g&&(okN g&&mE k sc N q))
 |.len a,sc,N,x=>xC1 "len" sc x (mE a sc N)
 |.abs a,sc,N,x=>xC1 "abs" sc x (mE a sc N)
 |.toInt a,sc,N,x=>xC1 "int" sc x (mE a sc N)
 |.sum a,sc,N,x=>xC1 "sum" sc x (mE a sc N)
 |.list a,sc,N,x=>xC1 "list" sc x (mE a sc N)
 |.tuple a,sc,N,x=>xC1 "tuple" sc x (mE a sc N)
 |.max a b,sc,N,x=>xC2 "max" sc x λp q=>mE a sc N p&&mE b sc N q
 |.call f es,sc,N,x=>xG f sc x λl=>okN f&&(!isM f&&(!l.isEmpty&&mEs es sc N l))
 |.gf f,sc,_,x=>M4 x f&&(glb sc f&&(okN f&&!isM f))
 |.callx c es,sc,N,x=>xCl x λf l _=>xS f (λp q s=>mE c sc N (.Subscript p q s))&&(!l.isEmpty&&mEs es sc N l)
 |.callv i es,sc,N,x=>xCl x λf l _=>xN f (λy _=>(N[i]?==AA y)&&(ab8 sc y&&okN y))&&(!l.isEmpty&&mEs es sc N l)
 |.isT t a,sc,N,x=>xC2 "isinstance" sc x λp g=>M4 g (Ab t)&&(glb sc (Ab t)&&(P3.contains t&&mE a sc N p))
 |.fld a f,sc,N,x=>xA x λo g _=>(g==f)&&(O0 o&&mE a sc N o)
 |.methd a m es,sc,N,x=>xM m x λo l=>(O0 o&&mE a sc N o)&&(!l.isEmpty&&(mEs es sc N l&&AB (l.length<29)))
 |.meth a m es,sc,N,x=>xM m x λo l=>(O0 o&&mE a sc N o)&&(mEs es sc N l&&AB (l.length<29))
 |.make c es,sc,N,x=>xG c sc x λl=>okN c&&mEs es sc N l
 |.app a b,sc,N,x=>xM1 "append" x (mE a sc N) (mE b sc N)
 |.ext a b,sc,N,x=>xM1 "extend" x (mE a sc N) (mE b sc N)
 |.popAt a b,sc,N,x=>xM1 "pop" x (mE a sc N) (mE b sc N)
 |.pop a,sc,N,x=>xM0 "pop" x (mE a sc N)
 |.denu a,sc,N,x=>xC1 "dict" sc x λp=>xC1 "enumerate" sc p (mE a sc N)
 |.igt a b,sc,N,x=>xM1 "get" x (mE a sc N) (mE b sc N)
 |.isX c a,sc,N,x=>xC2 "isinstance" sc x λp g=>M4 g c&&(glb sc c&&(okN c&&mE a sc N p))
 |.mkx c,sc,_,x=>xG c sc x λl=>okN c&&l.isEmpty
 |.mks a,sc,N,x=>xC1 "NoStep" sc x λp=>mE a sc N p
 |.xat a,sc,N,x=>xA x λo g _=>(g=="at")&&(O0 o&&mE a sc N o)
 |.dnt,sc,N,x=>xD x λl r _=>l.isEmpty&&r.isEmpty
 |.dgt a b,sc,N,x=>xM1 "get" x (mE a sc N) (mE b sc N)
 |.din ne a b,sc,N,x=>xCo x λq p r=>(q==(if ne then II else .In))&&(mE a sc N p&&mE b sc N r)
 |.lrev a,sc,N,x=>xM0 "reverse" x (mE a sc N)
 |.gc g,sc,_,x=>M4 x g&&(glb sc g&&okN g)
 |.index a b,sc,N,x=>xM1 "index" x (mE a sc N) (mE b sc N)
 |.comp Nc fr k t it c e,sc,N,x=>xLC x λel g scope _=>l1 g λg=>(g.is_async==0)&&(aa4 sc scope N Nc fr k&&(mIt it sc N g.target g.iter&&(mTg AG t (av1 scope sc) Nc g.target&&(mE e (av1 scope sc) Nc el&&cE c (mE c (av1 scope sc) Nc) g.ifs))))
noncomputable def mEs:Es->BE->List Str->List AS->Bool
 |.nil,_,_,xs=>xs.isEmpty
 |.cons e r,sc,N,xs=>DW (motive:=λ_=>Bool) xs AG λx xs=>mE e sc N x&&mEs r sc N xs
noncomputable def mIt:It->BE->List Str->AS->AS->Bool
 |.seq e,sc,N,_,x=>mE e sc N x
 |.rng a,sc,N,_,x=>xC1 "range" sc x (mE a sc N)
 |.rng2 a b,sc,N,_,x=>xC2 "range" sc x λp q=>mE a sc N p&&mE b sc N q
 |.enum e,sc,N,tg,x=>xT tg (λ_ _ _=>AC)&&xC1 "enumerate" sc x (mE e sc N)
 |.revt e,sc,N,_,x=>xC1 "reversed" sc x (mE e sc N)
 |.rev e,sc,N,_,x=>xC1 "reversed" sc x (mE e sc N)
end
structure XOk(Z:Sg)(X:Cx):Prop where
 calm:X.calm=AC
 psx:B2 (CXz X Z.X) X E0
 units:X.A.units+200<CG
 nd:X.N.Nodup
 blt:∀b∈V5,X.mg b=AE
 fns:∀f,isM f=AG->Z.F f=AC->FOk X Z.X f (Z.Phi f)
 tf:∀f,isM f=AG->Z.F f=AC->FnT X (CXz X AC) f (Z.T f)
 tr:Z.C "!ix"≠[]->TryOk X
 ixc:∀c∈Z.C "!ix",(∃Ca,X.mg c=AA (.ref Ca)/\Q5 X.K (Z.C "!xk") c (.ref Ca))\/(c="ValueError"/\X.mg c=AE/\Q5 X.K (Z.C "!xk") c (.type "ValueError"))
 mxc:∀c∈Z.C "!mx",MxOk X.K X.mg c
 nsx:Z.C "!ns"≠[]->∀C,Ae X.K AK "NoStep"=AA (AA (.ref C))->NsX X.K C
 ncf:Z.C "!ns"≠[]->Z.MF "law"=AC->NcF X (CXz X Z.X)
 fnd:∀f,isM f=AG->Z.F f=AC->z8 Z.C f=AA 0->∃k a fd ps,FnOk X.prog X.w X.K X.mg X.base (CXz X Z.X) k a fd ps (t5 X.K (Z.Phi f))/\Room k X.A/\X.mg f=AA (.ref a)/\BQ X.K (.ref a)=AC/\o8 X.K fd ps [.none]
 nom:∀f fa,Z.F f=AC->Ae X.K AK f=AA (AA (.ref fa))->isM f=AG
 cls:∀f c Ca,Ae X.K AK c=AA (AA (.ref Ca))->f∈Z.C c->Cls X.K Ca/\L8 X.K Ca f
 mth:∀m c Ca,Ae X.K AK c=AA (AA (.ref Ca))->Z.F (c9 c m)=AC->∃k f fd ps,Cls X.K Ca/\Meth X.K Ca m f/\FnOk X.prog X.w X.K X.mg X.base (CXz X Z.X) k f fd ps (t5 X.K (Z.Phi (c9 c m)))/\Room k X.A/\o8 X.K fd ps []
 mthd:∀m c Ca i,Ae X.K AK c=AA (AA (.ref Ca))->Z.F (c9 c m)=AC->z8 Z.C (c9 c m)=AA i->∃k f fd ps tk,Cls X.K Ca/\Meth X.K Ca m f/\FnOk X.prog X.w X.K X.mg X.base (CXz X Z.X) k f fd ps (t5 X.K (Z.Phi (c9 c m)))/\Room k X.A/\o8 X.K fd ps [.int i tk]
 mks:∀c,Z.MF (c9 c "__init__")=AC->∃Ca k f fd ps,Ae X.K AK c=AA (AA (.ref Ca))/\Mk X.K Ca f/\FnOk X.prog X.w X.K X.mg X.base (CXz X Z.X) k f fd ps (t5 X.K (Z.Mk (c9 c "__init__")))/\Room (k+1) X.A/\X.mg c=AA (.ref Ca)/\o8 X.K fd ps []
 tabs:∀g,Z.G g≠[]->GTab X.prog X.w X.K X.mg g (Z.G g)
 cst:∀g d,Z.Kc g=AA d->∃u,X.mg g=AA u/\Q2 X.K d u=AC
 isc:∀c∈Z.C "!is",∃Ca,X.mg c=AA (.ref Ca)/\IscOk X.K c Ca
 kt:Tbs.kt=(Z.C "!kt").isEmpty
 lam:X.N.contains v4=AC->LamOk X/\∀x,X.N.contains (z4 x)=AC->X.fn x=AG/\X.ow x=AC
 mtE:∀(e:E)(sc:BE)(N:List Str)(x:AS),mE e sc N x=AC->N.contains v4=AG->Tbs.mt (.cons (.ret e) .nil) sc N (.expr x)
 clo:∀np N b cs fa fd ps,CloF fd np N ps b->∃k,FnOk X.prog X.w X.K X.mg X.base (CXz X Z.X) k fa fd ps (X0 X.K fa fd np N cs (Z.PhiC np N b cs))/\Room k X.A
end
section
variable [Tbs]
variable{x:AS}{Z:Sg}{X:Cx}{f:Str}{scope:BE}{Nc:List Str}{fr:List Nat}
structure Snd(Z:Sg)(X:Cx)(e:E)(x:AS):Prop where
 v:PE X x (up X.K (wpE Z e))
 t:D7 x=AC->PT X x (upB X.K (wpT Z e))
 w:∀op vs p,x=.BoolOp op vs p->PW X x (upB X.K (wpT Z e))
 st:∀y p,x≠.Starred y p
 sl:∀l u s p,x≠.Slice l u s p
 se:∀l k p,x≠.Set l k p
def at7(h:bh9 x=AC):(∀y p,x≠.Starred y p)/\(∀l u s p,x≠.Slice l u s p)/\∀l k p,x≠.Set l k p:=
 ⟨λ_ _ z=>(by rw[z]at h;cases h),λ_ _ _ _ z=>(by rw[z]at h;cases h),λ_ _ _ z=>by rw[z]at h;cases h⟩
def Snd.plain{e}(c:PE X x (up X.K (wpE Z e)))(hi:∀a,IH x X.env a=do let v <-a;Ho x.pos;holding [v] (truthy v))(b:bh9 x=AC)(d:∀op vs p,x≠.BoolOp op vs p):Snd Z X e x:=
 ⟨c,λ_=>cz7 c hi,λop vs p z=>absurd z (d op vs p),(at7 b).1,(at7 b).2.1,(at7 b).2.2⟩
abbrev ch6(x:AS):Bool:=[2,4,6,8,16,19,20,21,23,24,25].contains x.ctorIdx
def Snd.pl{e:E}(b:PE X x (up X.K (wpE Z e)))(h:ch6 x=AC):Snd Z X e x:=by
 cases x<;>first|exact(AH h).elim|exact Snd.plain b (λ_=>rfl) rfl (by intros;exact nofun)
def o6(h:glb X.env.scope f=AC):Gl X f:=by
 have:=by simpa[glb]using h
 exact this
def ar6{sc}(h:ab8 sc f=AC):Vis sc f:=by
 unfold ab8 at h
 split at h
 ·exact .inl (by assumption)
 ·exact .inr (.inl (by assumption))
 ·exact .inr (.inr (by assumption))
 ·cases h
def S9{sc}(h:O2 sc f=AC):Loc sc f:=by
 unfold O2 at h
 split at h
 ·exact .inl (by assumption)
 ·exact .inr (by assumption)
 ·cases h
def B8{x}(h:okN x=AC):(x=="__debug__")=AG/\(x=="__classdict__")=AG:=by
 simpa[okN]using h
def F0{o}(h:O0 o=AC):∀i p a,o≠.Call (.Name i p) [] [] a:=λ_ _ _ z=>by rw[z]at h;cases h
def XOk.blt'(h:XOk Z X)(b:Str)(a:V5.contains b=AC:=by decide):X.mg b=AE:=h.blt b (by simpa using a)
def at0{ow}{t}(D:X.calm=AC)(w:X.N.Nodup)(o:ow=AC->∀y,Loc X.env.scope y->X.N.contains (z4 y)=AG->X.fn y=AC\/X.env.scope.names.lookup y=AA .local)(h:mTg ow t X.env.scope X.N x=AC):PG X x (upG X.K t):=by
 have l:∀(i:Nat)y(p:Pos),((X.N[i]?==AA y)&&O2 X.env.scope y&&((ow&&!(X.N.contains (z4 y)))||lcl X.env.scope y))=AC->X.N[i]?=AA y/\Loc X.env.scope y/\(X.fn y=AC\/X.env.scope.names.lookup y=AA .local):=λi y p h=>by
  simp only[BD,beq_iff_eq,Bool.or_eq_true,EU]at h;refine⟨h.1.1,S9 h.1.2,?_⟩
  rcases h.2 with z|z
  ·exact o z.1 y (S9 h.1.2) z.2
  ·exact .inr (by simpa[lcl]using z)
 cases t with
 |n i=>
  refine xN_ (C:=λx=>PG X x (upG X.K (.n i))) h λy p h=>?_;obtain⟨a,b,c⟩:=l _ _ p h;exact cf2 w a b c
 |tup f=>
  refine xT_ (C:=λx=>PG X x (upG X.K (.tup f))) h λes k p h=>?_;obtain⟨j,E⟩:=an h;have v:∀f(es:List AS),f.length=es.length->((f.zip es).all λp=>xN p.2 λy _=>(X.N[p.1]?==AA y)&&O2 X.env.scope y&&((ow&&!(X.N.contains (z4 y)))||lcl X.env.scope y))=AC->PGs X es (ab7 f)/\(CB es X.env).length=f.length/\(CB es X.env).findIdx? (·.1)=AE:=by
   intro f
   induction f with
   |nil=>
    intro es j _;cases es with
    |nil=>exact⟨ch3,rfl,rfl⟩
    |cons a b=>cases j
   |cons i f B=>
    intro es j h;cases es with
    |nil=>cases j
    |cons e es=>
     obtain⟨q,F⟩:=an h;obtain⟨u,s,r⟩:=B es (Fs j) F;refine xN_ (C:=λe=>PGs X (e::es) (ab7 (i::f))/\(CB (e::es) X.env).length=(i::f).length/\(CB (e::es) X.env).findIdx? (·.1)=AE) q λy py q=>?_;obtain⟨a,b,c⟩:=l i y py q;refine⟨b02 (ba6 w a b c) u rfl,congrArg (·+1) s,?_⟩;show List.findIdx? _ ((AG,assign (.Name y py) X.env)::CB es X.env)=AE;rw[List.findIdx?_cons];rw[r];rfl
  obtain⟨u,s,r⟩:=v f es (beq_iff_eq.1 j) E;exact cp4 D u s r
def a01{k:Nat}(h:aa4 X.env.scope scope X.N Nc fr k=AC):CompScope X scope Nc fr k:=by
 unfold aa4 at h;simp only[BD,beq_iff_eq,decide_eq_true_eq,DH]at h;obtain⟨⟨⟨⟨⟨⟨⟨⟨r,p⟩,o⟩,m⟩,l⟩,g⟩,_⟩,f⟩,e⟩:=h;refine⟨r,λy hy=>?_,λy hy hl=>?_,λy hy hf=>?_,λy hy hf b=>?_,g,f,λi x hx hi=>?_⟩
 ·simpa using p y hy
 ·have:=o y hy;rw[hl]at this;simpa using this
 ·have:=m y hy;rw[hf]at this;simpa using this
 ·have:=l y hy;rw[hf]at this;have:(scope.names.any λz=>z.1==y.1&&z.2==.local)=AG:=by simpa using this
  rw[HD]at this;exact absurd ∎ (this _ b)
 ·have:=e i (by simpa using hi);rw[hx]at this;cases q:fr[i]? with
  |none=>rw[q]at this;cases this
  |some j=>
   rw[q]at this;simp only[BD,beq_iff_eq,Hj]at this;obtain⟨a,⟨n,kd⟩,b,d,c⟩:=this;simp only at d c;subst d c;exact⟨j,rfl,a,b⟩
def ae5{k}(h:aa4 X.env.scope scope X.N Nc fr k=AC):=by
 unfold aa4 at h;simp only[BD,EU]at h;exact h.1.1.2
theorem XOk.comp{k}(h:XOk Z X)(l:Z.X=AG)(j:Nc.contains v4=AG)(S:CompScope X scope Nc fr k)C(n:List AI)pins(s:AJ)H:XOk Z (X.comp scope Nc C n pins s H) where
 calm:=h.calm
 psx:=λ_ _ _ _ _ _ _ c=>absurd (l▸c.1) AH
 tf:=λf a b=>⟨(h.tf f a b).ex⟩
 tr:=λz=>⟨(h.tr z).ex,(h.tr z).rc⟩
 ixc:=h.ixc
 mxc:=h.mxc
 nsx:=h.nsx
 ncf:=λa b=>⟨(h.ncf a b).ex⟩
 units:=h.units
 nd:=S.nd
 blt:=h.blt
 fns:=λf hm hf=>let⟨k,a,fd,d,x⟩:=(h.fns f hm hf).ex;⟨k,a,fd,d,x⟩
 fnd:=λf hm hf=>h.fnd f hm hf
 nom:=λf fa a=>h.nom f fa a
 cls:=λf c Ca a=>h.cls f c Ca a
 mth:=λm c Ca a=>h.mth m c Ca a
 mthd:=λm c Ca i a b=>h.mthd m c Ca i a b
 mks:=λc=>h.mks c
 tabs:=λg hg=>⟨(h.tabs g hg).ex⟩
 lam:=λz=>by
  have e:Nc.contains v4=AC:=z;rw[j]at e;cases e
 cst:=h.cst
 isc:=h.isc
 kt:=h.kt
 mtE:=h.mtE
 clo:=λnp N b cs fa fd d=>h.clo np N b cs fa fd d
theorem fmc{b c:Type}{f g:b->Option c}:∀{l:List b},(∀n∈l,f n=g n)->l.filterMap f=l.filterMap g
 |[],_=>rfl
 |a::l,h=>by rw[CV,CV,h a (.head _),fmc λn hn=>h n (.tail _ hn)]
theorem a62:∀(ns:List Str)(us:List AF),ns.Nodup->us.length=ns.length->(ns.filterMap λn=>((ns.zip us).lookup n).map (n,·))=ns.zip us/\∀n∈ns,((ns.zip us).lookup n).isNone=AG
 |[],us,_,_=>⟨rfl,nofun⟩
 |a::ns,u::us,b,c=>by
  obtain⟨d,f⟩:=a62 ns us (BR.1 b).2 (Fs c);refine⟨?_,λn hn=>?_⟩
  ·rw[FD,CV,EI,beq_self_eq_true];refine congrArg ((a,u)::·) (Kl (fmc λn hn=>?_) d);rw[EI,beq_false_of_ne λe:n=a=>(BR.1 b).1 (e▸hn)]
  ·rw[FD,EI];cases e:n==a with
   |true=>rfl
   |false=>grind
def fz{c b a:Type}{z:List c}{i}{f}{g:b->Sem a}(d:z=[]):forIn z i f>>=g=g i:=by subst d;rfl
def c73(name a:Str)(l:List Arg)(k:Dj)(scope:BE)(cl:List (Str×AI))(b f cv m:AF)(us:List AF)(h:us.length=(l.map Ee).length)(g:(l.map Ee).Nodup):EF (M6 name a ⟨[],l,AE,[],[],AE,[]⟩ k scope cl b f cv m) ⟨us,[]⟩=pure ((l.map Ee).zip us):=by
 obtain⟨e,d⟩:=a62 (l.map Ee) us g h;have j:¬(AB (us.length>(l.map Ee).length)&&AC)=AC:=by rw[h];simp
 have c:(ME (0-(l.map Ee).length) ([]:List AF))=[]:=List.drop_nil;have i:¬(!(((l.map Ee).take ((l.map Ee).length-(ME (0-(l.map Ee).length) ([]:List AF)).length)).filter (λn=>(((l.map Ee).zip us).lookup n).isNone)).isEmpty)=AC:=by
  rw[c,BW,LU,FA,IC.2 λn hn=>by rw[d n hn];exact AH];exact AH
 refine(if_neg j).trans ((if_neg i).trans ((fz ?_).trans ?_))
 ·exact(congrArg _ c).trans List.zip_nil_right
 ·exact congrArg (pure:List (Str×AF)->Sem _) ((congrArg _ (BM _)).trans e)
theorem bl6 env:∀l,(l.all λa=>a.annotation.isNone)=AC->annotationsOf (l++[]++[]++[]++[]) env=[]
 |[],_=>rfl
 |⟨_,AE,_⟩::l,h=>bl6 env l h
def br8{p}{ps}(h:ae8 p=AA ps):p.defaults=[]/\p.kw_defaults=[]/\(∀env,defaultsOf p env=([],[]))/\(∀env,annTrees p AE env=[]) /\
  ∀name a(o:Dj)(scope:BE)cl(b c cv q:AF)us,us.length=ps.length->EF (M6 name a p o scope cl b c cv q) ⟨us,[]⟩=pure (ps.zip us):=by
 obtain⟨s,l,r,t,kd,u,v⟩:=p;unfold ae8 at h
 split at h
 ·rename_i d;cases h;obtain⟨⟨⟨⟨⟨⟨⟨⟨⟨n,m⟩,k⟩,j⟩,i⟩,g⟩,f⟩,e⟩,_⟩,_⟩:=by simpa only[BD,List.isEmpty_iff,Option.isNone_iff_eq_none,decide_eq_true_eq]using d
  subst n m k j i g;exact⟨rfl,rfl,λ_=>rfl,λenv=>(BM _).trans (bl6 env l f),λ_ _ _ _ _ _ _ _ _ us hl=>c73 _ _ l _ _ _ _ _ _ _ us hl e⟩
 ·cases h
def cc4{e:DM}{p:Dj}{np:Nat}{r l:List Str}{cp:List Nat}{b:Ss}(h:as8 X.env.scope X.N scope r l np cp=AC)(J:∀x,X.N.contains (z4 x)=AC->X.fn x=AG/\X.ow x=AC)(v:Tbs.mt b scope r p)
  (g:∀(name f:Str)(cl:List (Str×AI))(q u cv I:AF)(us:List AF),us.length=l.length->EF (M6 name f e p scope cl q u cv I) ⟨us,[]⟩=pure (l.zip us)):NestOk X e p scope np r l cp b:=by
 unfold as8 at h;simp only[BD,beq_iff_eq,EU,decide_eq_true_eq,DH]at h;obtain⟨⟨⟨⟨⟨⟨⟨⟨⟨H,G⟩,F⟩,E⟩,D⟩,C⟩,B⟩,A⟩,z⟩,o⟩:=h;have key:∀x,(x,Aw)∈scope.names->scope.names.lookup x=AA .free/\X.env.scope.names.lookup x=AA .cell/\X.N.contains (z4 x)=AC/\∃i:Nat,∃j:Nat,cp[i]?=AA j/\X.N[j]?=AA x:=λx m=>by
  have:=z _ m;simp only[beq_self_eq_true,Fu,EX,BD,beq_iff_eq,Hj]at this;obtain⟨⟨⟨a,b⟩,c⟩,i,_,d⟩:=this;refine⟨a,b,c,i,?_⟩
  split at d
  ·rename_i j n;exact⟨j,n,by simpa using d⟩
  ·cases d
 refine⟨⟨G,F,E,D,C,B,λy hy=>by simpa using A y hy,λy hy hk=>?_⟩,H,v,g,λi j n=>?_,λx m=>?_⟩
 ·obtain⟨y,k⟩:=y;subst hk;exact(key y hy).1
 ·have hi:=(AT.mp n).1;have:=o i (by simpa using hi);rw[n]at this;simp only at this
  split at this
  ·rename_i x m;simp only[BD,beq_iff_eq,Hj]at this;obtain⟨a,⟨y,k⟩,w,t,s⟩:=this;simp only at t s;subst t s;exact⟨_,m,a,w⟩
  ·cases this
 ·simp_all
end
section
variable [Tbs]
variable{X:Cx}{Z:Sg}{e:E}{l:List AS}
structure SndA(Z:Sg)(X:Cx)(es:Es)(xs:List AS):Prop where
 a:PA X xs (upA X.K es.len (r9 Z es))
 pl:∀pos:Pos,(Bp pos (Aj xs X.env)).any (·.1)=AG
def bf5{o}{q}{pos}{t}(h:PT X q (upB X.K (tst t))):PW X (.BoolOp o [q] pos) (upB X.K (tst t)):=by
 cases o with
 |And=>exact b65 h
 |Or=>exact ci3 h
def b31:∀e(a)N(l)(k)p,mE e a N (.Set l k p)=AG:=by
 intro e a N l k p;cases e<;>rfl
def b84{t}(h:t∈P3):BF (Ab t)=AA (.type t)/\Ab t≠"__name__"/\(Ab t=="__debug__")=AG/\V5.contains (Ab t)=AC:=by
 simp only[P3,AR,AW,or_false]at h
 rcases h with rfl|rfl|rfl|rfl|rfl<;>exact⟨rfl,∅,∅,∅⟩
def as1{env:Env}{b:It}{a:BE}{N:List Str}{d x:AS}(h:mIt b a N d x=AC):∀v,Dd x env v=pure v:=by
 have g:∀l k p,x≠.Set l k p:=λl k p z=>by
  subst z;cases b with
  |seq e=>exact(AH ((b31 e a N l k p).symm.trans h)).elim
  |enum e=>exact(AH (an h).2).elim
  |_=>exact(AH h).elim
 intro v;cases x<;>first|rfl|exact absurd rfl (g _ _ _)
def G2{K}{t t'}{σ}{H}{Q}(h:∀env st Q,t env st Q->t' env st Q)(q:up K t σ H Q):up K t' σ H Q:=by
 obtain⟨env,st,e,d,c,a,b⟩:=q;exact⟨env,st,e,d,c,h _ _ _ a,b⟩
def O4{x}{P}(h:¬P)(w:∀env st Q,wpE Z e env st Q->P):PE X x (up X.K (wpE Z e)):=λ_ _ _ _ _ _ q=>by
 obtain⟨env,st,_,_,_,a,_⟩:=q;exact absurd (w env st _ a) h
def aj3{lo:E}{l:Option AS}(h:oE lo (mE lo X.env.scope X.N) l=AC)(H:∀x,mE lo X.env.scope X.N x=AC->Snd Z X lo x):PO X l (upO X.K λenv st k=>(if lo.isNon=AC then λk=>k AE st else λ(k:Option Int->Sto->Prop)=>wpE Z lo env st λd st'=>∃i,d=.int i/\k (AA i) st') k):=by
 cases l with
 |none=>rw[show lo.isNon=AC from h];exact ch4
 |some l=>
  obtain⟨b,a⟩:=an h;rw[show lo.isNon=AG from nt b];exact b89 (H l a).v
def bk6{c:E}(h:cE c (mE c X.env.scope X.N) l=AC)(H:∀x,mE c X.env.scope X.N x=AC->Snd Z X c x):PCs X l (upB X.K (if c.isNon=AC then λ_ st Q=>Q AC st else λenv st Q=>wpE Z c env st λd st'=>∃b,d=.bl b/\Q b st')):=by
 cases l with
 |nil=>
  rw[show c.isNon=AC from h];exact λpins' s' σ' H' Q' I'⟨env,st,Qd,hE,hS,ht,hq⟩=>b86 pins' s' σ' H' Q' I' (hq AC H' st Ev.refl hS ht)
 |cons a l=>
  refine l1_ (C:=λl=>PCs X l _) (show l1 (a::l) (λx=>!c.isNon&&(D7 x&&mE c X.env.scope X.N x))=AC from h) λx h=>?_;obtain⟨i,e⟩:=an h;rw[show c.isNon=AG from nt i];exact ce6 ((H x (an e).2).t (an e).1)
def cy2{ks}{vs}(h:bl5 ks vs=AC):ks.length=vs.len/\ks.Nodup/\ks.length<=15/\∀{l:List (Option AS)},l.length=ks.length->l≠[]:=
 ⟨beq_iff_eq.1 (an h).1,of_decide_eq_true (an (an h).2).1,of_decide_eq_true (an (an (an h).2).2).1,λe z=>by
  subst z;rw[Bd e.symm]at h;exact AH (an (an (an h).2).2).2⟩
def mcF{cp}(a:(Bp cp (Aj l X.env)).any (·.1)=AG)(h:l.length<29):Dk (l.length+0) (Bp cp (Aj l X.env)) (El cp (DF [] X.env))=AC:=by
 unfold Dk;rw[show(Bp cp (Aj l X.env)).all (λx=>!x.1)=AC from by
  rw[DH];intro w b;rw[HD]at a;simpa using a w b]
 exact decide_eq_true (EY h)
def Snd.cm{a}{o}{b}{p}(d:PE X (.Compare a o b p) (up X.K (wpE Z e)))(c:PT X (.Compare a o b p) (upB X.K (wpT Z e))):Snd Z X e (.Compare a o b p):=⟨d,λ_=>c,nofun,nofun,nofun,nofun⟩
def Snd.bo{o}{b}{p}(c:PE X (.BoolOp o b p) (up X.K (wpE Z e)))(a:PW X (.BoolOp o b p) (upB X.K (wpT Z e))):Snd Z X e (.BoolOp o b p):=⟨c,λ_=>a.pt,λ_ _ _ _=>a,nofun,nofun,nofun⟩
def lb_{k}{m}{C:List AS->Prop}(h:lb l k m=AC)(H:∀p q,k p q=AC->C [p,q])(J:∀p q r s,m p (q::r::s)=AC->C (p::q::r::s)):C l:=
 match l,h with
 |[p,q],h=>H p q h
 |p::q::r::s,h=>J p q r s h
def XOk.fnx(d:XOk Z X)(f)fa(e:Z.F f=AC)(b:Ae X.K AK f=AA (AA (.ref fa))):∃k fd c,FnOk X.prog X.w X.K X.mg X.base (CXz X Z.X) k fa fd c (t5 X.K (Z.Phi f))/\Room k X.A/\BQ X.K (.ref fa)=AC/\o8 X.K fd c []:=by
 obtain⟨k,a,fd,c,F,g,l,i,j,h⟩:=(d.fns f (d.nom f fa e b) e).ex;rw[h]at b;cases b;exact⟨k,fd,c,F,g,i,j⟩
mutual
theorem f8(Z:Sg):∀(e:E)(X:Cx)(x:AS),XOk Z X->mE e X.env.scope X.N x=AC->Snd Z X e x
 |.non,X,x,hX,h=>U6 h λn p=>Snd.pl (by exact ai9 cn4 λ_=>.non) rfl
 |.bl b,X,x,hX,h=>U6 h λn p=>Snd.pl (by exact ai9 c46 λ_=>.bl _) rfl
 |.int i,X,x,hX,h=>U6 h λn p=>Snd.pl (by exact ai9 cj1 λ_=>.int _) rfl
 |.str y,X,x,hX,h=>U6 h λn p=>Snd.pl (by exact ai9 be2 λ_=>.str _) rfl
 |.v i,X,x,hX,h=>xN_ h λy p h=>Snd.pl (by exact cp8 (beq_iff_eq.1 (an h).1) (ar6 (an (an h).2).1) (B8 (an (an h).2).2).1 (B8 (an (an h).2).2).2) rfl
 |.tup es,X,x,hX,h=>xT_ h λl n p h=>Snd.pl (by exact co4 (E9 Z es X _ hX (an h).1).a (of_decide_eq_true (an h).2)) rfl
 |.lst es,X,x,hX,h=>xL_ h λl p h=>Snd.pl (by exact ct6 (E9 Z es X _ hX (an h).1).a (of_decide_eq_true (an h).2)) rfl
 |.bin o a b,X,x,hX,h=>c90 h λp q r ps h=>by
  cases beq_iff_eq.1 (an h).1;exact Snd.pl (by exact cl5 (f8 Z a X _ hX (an (an h).2).1).v (f8 Z b X _ hX (an (an h).2).2).v) rfl
 |.neg a,X,x,hX,h=>xU_ h λo p ps h=>by
  cases beq_iff_eq.1 (an h).1;exact Snd.plain (by exact cr7 (f8 Z a X _ hX (an h).2).v) (λ_=>rfl) rfl (by intros;exact nofun)
 |.cmp o a b,X,x,hX,h=>ai2 h λq p r ps h=>by
  cases beq_iff_eq.1 (an h).1;have ia:=f8 Z a X _ hX (an (an h).2).1;have ib:=f8 Z b X _ hX (an (an h).2).2;exact Snd.cm (by exact ck5 hX.units ia.v ib.v ib.se) (by unfold wpT;exact co6 hX.units ia.v ib.v ib.se)
 |.isN a,X,x,hX,h=>ai2 h λq p r ps h=>by
  cases beq_iff_eq.1 (an h).1;refine U6 (C:=λr=>Snd Z X (.isN a) (.Compare p [.Is] [r] ps)) (an (an h).2).1 λn pp=>?_;have ia:=f8 Z a X _ hX (an (an h).2).2;exact Snd.cm (by exact cs5 ia.v) (by unfold wpT;exact ci9 ia.v)
 |.notN a,X,x,hX,h=>ai2 h λq p r ps h=>by
  cases beq_iff_eq.1 (an h).1;refine U6 (C:=λr=>Snd Z X (.notN a) (.Compare p [.IsNot] [r] ps)) (an (an h).2).1 λn pp=>?_;have ia:=f8 Z a X _ hX (an (an h).2).2;exact Snd.cm (by exact ca6 ia.v) (by unfold wpT;exact cc2 ia.v)
 |.and a b,X,x,hX,h=>bl9 h λo l ps h=>by
  cases beq_iff_eq.1 (an h).1;refine lb_ (C:=λl=>Snd Z X (.and a b) (.BoolOp .And l ps)) (an h).2 (λp q h=>?_) λp q r j7 h=>?_
  ·have ia:=f8 Z a X _ hX (an (an (an h).1).1).1;have ib:=f8 Z b X _ hX (an (an (an h).1).1).2;exact Snd.bo (by exact bf9 ia.v (be8 ib.v)) (by unfold wpT;exact bg4 (ia.t (an (an h).1).2) (bf5 (ib.t (an h).2)))
  ·have ia:=f8 Z a X _ hX (an (an h).1).1;have ib:=f8 Z b X _ hX (an (an h).1).2;exact Snd.bo (by exact bf9 ia.v ib.v) (by unfold wpT;exact bg4 (ia.t (an h).2) (ib.w _ _ _ rfl))
 |.or a b,X,x,hX,h=>bl9 h λo l ps h=>by
  cases beq_iff_eq.1 (an h).1;refine lb_ (C:=λl=>Snd Z X (.or a b) (.BoolOp .Or l ps)) (an h).2 (λp q h=>?_) λp q r j7 h=>?_
  ·have ia:=f8 Z a X _ hX (an (an (an h).1).1).1;have ib:=f8 Z b X _ hX (an (an (an h).1).1).2;exact Snd.bo (by exact bi7 ia.v (be8 ib.v)) (by unfold wpT;exact bi5 (ia.t (an (an h).1).2) (bf5 (ib.t (an h).2)))
  ·have ia:=f8 Z a X _ hX (an (an h).1).1;have ib:=f8 Z b X _ hX (an (an h).1).2;exact Snd.bo (by exact bi7 ia.v ib.v) (by unfold wpT;exact bi5 (ia.t (an h).2) (ib.w _ _ _ rfl))
 |.not a,X,x,hX,h=>xU_ h λo p ps h=>by
  cases beq_iff_eq.1 (an h).1;have ia:=f8 Z a X _ hX (an (an h).2).1;exact⟨by exact ci2 ia.v,λ_=>(by unfold wpT;exact ch7 (ia.t (an (an h).2).2)),nofun,nofun,nofun,nofun⟩
 |.ite c a b,X,x,hX,h=>dc4 h λp q r ps h=>
  ⟨by exact cl9 ((f8 Z c X _ hX (an (an h).1).1).t (an (an h).1).2) (f8 Z a X _ hX (an (an h).2).1).v (f8 Z b X _ hX (an (an h).2).2).v,nofun,nofun,nofun,nofun,nofun⟩
 |.ix a b,X,x,hX,h=>xS_ h λp q ps h=>
  have ib:=f8 Z b X _ hX (an h).2
  Snd.pl (by exact c48 hX.units (f8 Z a X _ hX (an h).1).v ib.v ib.sl) rfl
 |.sl a lo hi,X,x,hX,h=>xS_ h λp s ps h=>bk4 (C:=λs=>Snd Z X (.sl a lo hi) (.Subscript p s ps)) (an h).2 λl u st p2 h2=>by
  cases st with
  |some _=>exact(AH h2).elim
  |none=>exact Snd.pl (by exact c55 (f8 Z a X _ hX (an h).1).v (aj3 (an (an h2).2).1 λx=>f8 Z lo X x hX) (aj3 (an (an h2).2).2 λx=>f8 Z hi X x hX)) rfl
 |.slw a lo hi,X,x,hX,h=>xS_ h λp s ps h=>bk4 (C:=λs=>Snd Z X (.slw a lo hi) (.Subscript p s ps)) (an h).2 λl u st p2 h2=>by
  cases st with
  |some _=>exact(AH h2).elim
  |none=>exact Snd.pl (by exact cs6 (f8 Z a X _ hX (an h).1).v (aj3 (an (an h2).2).1 λx=>f8 Z lo X x hX) (aj3 (an (an h2).2).2 λx=>f8 Z hi X x hX)) rfl
 |.dsel ks vs k,X,x,hX,h=>xS_ h λd q ps h=>xD_ (C:=λd=>Snd Z X (.dsel ks vs k) (.Subscript d q ps)) (an h).2 λkeys xs dp h2=>by
  have ik:=f8 Z k X _ hX (an h).1;obtain⟨h4,h5,h6,hne⟩:=cy2 (an (an h2).2).2;obtain⟨d,e1,e2,e3⟩:=bj7 Z vs X ks _ _ dp hX (an h2).1 (an (an h2).2).1 h4;exact Snd.pl (by exact cf5 hX.units d e1 e2 (hne e3) e3 ⋯ h5 ik.v ik.sl) rfl
 |.gget g k d,X,x,hX,h=>xM_ h λo ap l cp hl h=>N8 (C:=λo=>Snd Z X (.gget g k d) (.Call (.Attribute o "get" ap) l [] cp)) (an h).1 λnp=>l2_ (C:=λl=>Snd Z X (.gget g k d) (.Call (.Attribute (.Name g np) "get" ap) l [] cp)) (an (an (an h).2).2).2 λp q h2=>
  have ik:=f8 Z k X _ hX (an h2).1;have id:=f8 Z d X _ hX (an h2).2
  Snd.pl (by exact b80 (hX.tabs g) (o6 (an (an h).2).1) ik.v id.v ik.st id.st hl (B8 (an (an (an h).2).2).1).1) rfl
 |.gsel g k,X,x,hX,h=>xS_ h λn q ps h=>N8 (C:=λn=>Snd Z X (.gsel g k) (.Subscript n q ps)) (an h).1 λnp=>
  have ik:=f8 Z k X _ hX (an (an (an h).2).2).2
  Snd.pl (by exact b59 (hX.tabs g) (o6 (an (an h).2).1) ik.v ik.sl (B8 (an (an (an h).2).2).1).1) rfl
 |.len a,X,x,hX,h=>D9 h λq p ps h1 h2=>
  have ia:=f8 Z a X _ hX h2
  Snd.pl (by exact cm7 (o6 h1) (hX.blt' _) ia.v ia.st) rfl
 |.abs a,X,x,hX,h=>D9 h λq p ps h1 h2=>
  have ia:=f8 Z a X _ hX h2
  Snd.pl (by exact ci5 (o6 h1) (hX.blt' _) ia.v ia.st) rfl
 |.toInt a,X,x,hX,h=>D9 h λq p ps h1 h2=>
  have ia:=f8 Z a X _ hX h2
  Snd.pl (by exact b35 (o6 h1) (hX.blt' _) ia.v ia.st) rfl
 |.sum a,X,x,hX,h=>D9 h λq p ps h1 h2=>
  have ia:=f8 Z a X _ hX h2
  Snd.pl (by exact ci0 hX.calm (o6 h1) (hX.blt' _) ia.v ia.st) rfl
 |.list a,X,x,hX,h=>D9 h λq p ps h1 h2=>
  have ia:=f8 Z a X _ hX h2
  Snd.pl (by exact b74 (o6 h1) (hX.blt' _) ia.v ia.st) rfl
 |.tuple a,X,x,hX,h=>D9 h λq p ps h1 h2=>
  have ia:=f8 Z a X _ hX h2
  Snd.pl (by exact b10 (o6 h1) (hX.blt' _) ia.v ia.st) rfl
 |.max a b,X,x,hX,h=>ab6 h λq p r ps h1 h2=>
  have ia:=f8 Z a X _ hX (an h2).1;have ib:=f8 Z b X _ hX (an h2).2
  Snd.pl (by exact cq8 hX.calm (o6 h1) (hX.blt' _) ia.v ib.v ia.st ib.st) rfl
 |.call f es,X,x,hX,h=>xG_ h λq l ps h1 h=>by
  cases l with
  |nil=>exact(AH (an (an (an h).2).2).1).elim
  |cons y ys=>cases es with
   |nil=>exact(AH (an (an (an h).2).2).2).elim
   |cons e0 er=>
    have i0:=f8 Z e0 X _ hX (an (an (an (an h).2).2).2).1;have ir:=E9 Z er X _ hX (an (an (an (an h).2).2).2).2;refine Snd.pl ?_ rfl
    by_cases hF:Z.F f=AC
    ·obtain⟨k,a,fd,ps,F,hr,hm,hk,hb,_⟩:=(hX.fns f (nt (an (an h).2).1) hF).ex;exact PE.imp (b53 hX.psx F hr (o6 h1) hm hk hb (V8 i0.v ir.a i0.st) (B8 (an h).1).1 i0.st (ir.pl _)) λ_ _ _=>G2 λ_ _ _ ht=>ht.2
    ·exact O4 hF λ_ _ _ ht=>ht.1
 |.gf f,X,x,hX,h=>N8 (C:=λx=>Snd Z X (.gf f) x) (an h).1 λp=>by
  refine Snd.pl ?_ rfl
  by_cases hF:Z.F f=AC
  ·obtain⟨k,a,fd,ps,F,hr,hm,hk,hb,hn⟩:=(hX.fns f (nt (an (an (an h).2).2).2) hF).ex;exact PE.imp (c30 (o6 (an (an h).2).1) hm hn (B8 (an (an (an h).2).2).1).1) λ_ _ _=>G2 λ_ _ _ ht=>ht.2
  ·exact O4 hF λ_ _ _ ht=>ht.1
 |.callx c es,X,x,hX,h=>aj0 h λf l ps h=>by
  refine xS_ (C:=λf=>Snd Z X (.callx c es) (.Call f l [] ps)) (an h).1 λp q sp h1=>?_;cases l with
  |nil=>exact(AH (an (an h).2).1).elim
  |cons y ys=>cases es with
   |nil=>exact(AH (an (an h).2).2).elim
   |cons e0 er=>
    have i0:=f8 Z e0 X _ hX (an (an (an h).2).2).1;have ir:=E9 Z er X _ hX (an (an (an h).2).2).2;refine Snd.pl ?_ rfl;exact b17 hX.psx (F:=Z.F) (Ph:=Z.Phi) (f8 Z c X _ hX h1).v hX.fnx (V8 i0.v ir.a i0.st) i0.st (ir.pl _)
 |.gc g,X,x,hX,h=>N8 (C:=λx=>Snd Z X (.gc g) x) (an h).1 λp=>by
  refine Snd.pl ?_ rfl;cases hk:Z.Kc g with
  |none=>exact λ_ _ _ _ _ _⟨env,st,Qd,hE,hS,⟨i,hi,_⟩,hq⟩=>nomatch hk.symm.trans hi
  |some i=>
   obtain⟨t,hm,hv⟩:=hX.cst g i hk;obtain⟨v,rv,is⟩:=Q2.is hv;exact PE.imp (ap6 (v:=v) (o6 (an (an h).2).1) hm rv (B8 (an (an h).2).2).1) λσ H Q q=>by
    obtain⟨env,st,Qd,hE,hS,⟨i',hi,ht⟩,hq⟩:=q;cases hk.symm.trans hi;exact hq.here (is H) hS ht
 |.callv i es,X,x,hX,h=>aj0 h λf l ps h=>by
  refine xN_ (C:=λf=>Snd Z X (.callv i es) (.Call f l [] ps)) (an h).1 λy p h1=>?_;cases l with
  |nil=>exact(AH (an (an h).2).1).elim
  |cons z zs=>cases es with
   |nil=>exact(AH (an (an h).2).2).elim
   |cons e0 er=>
    have i0:=f8 Z e0 X _ hX (an (an (an h).2).2).1;have ir:=E9 Z er X _ hX (an (an (an h).2).2).2;refine Snd.pl ?_ rfl;exact bz5 hX.psx (Z:=Z) (beq_iff_eq.1 (an h1).1) (ar6 (an (an h1).2).1) (B8 (an (an h1).2).2).1 (B8 (an (an h1).2).2).2 hX.fnx hX.clo (V8 i0.v ir.a i0.st) i0.st (ir.pl _)
 |.isT t a,X,x,hX,h=>ab6 h λq p r ps h1 h2=>N8 (C:=λr=>Snd Z X (.isT t a) (.Call (.Name "isinstance" q) [p,r] [] ps)) (an h2).1 λnp=>by
  have hin:t∈P3:=List.contains_iff_mem.1 (an (an (an h2).2).2).1;obtain⟨b1,b2,b3,b4⟩:=b84 hin;have ia:=f8 Z a X _ hX (an (an (an h2).2).2).2;exact Snd.pl (by exact cv9 hin (o6 h1) (hX.blt' _) (o6 (an (an h2).2).1) (hX.blt' _ b4) b1 b2 b3 ia.v ia.st) rfl
 |.fld a f,X,x,hX,h=>xA_ h λo g ap h=>by
  cases beq_iff_eq.1 (an h).1;exact Snd.pl (by exact cm0 (C:=Z.C) (λc Ca=>hX.cls _ c Ca) (f8 Z a X _ hX (an (an h).2).2).v (C7 (F0 (an (an h).2).1))) rfl
 |.meth a m es,X,x,hX,h=>xM_ h λo ap l cp hl h=>by
  have hbo:=F0 (an (an h).1).1;have ia:=f8 Z a X _ hX (an (an h).1).2;have iall:=E9 Z es X _ hX (an (an h).2).1;refine Snd.pl ?_ rfl;cases l with
  |nil=>
   cases es with
   |nil=>exact PE.imp (b00 hX.psx (F:=Z.F) (Ph:=Z.Phi) (λc Ca=>hX.mth m c Ca) hl hbo ia.v) λ_ _ _=>G2 λ_ _ _ ht=>(by exact ht)
   |cons _ _=>exact(AH (an (an h).2).1).elim
  |cons z zs=>
   cases es with
   |nil=>exact(AH (an (an h).2).1).elim
   |cons e0 er=>
    exact cd7 hX.psx (F:=Z.F) (Ph:=Z.Phi) (λc Ca=>hX.mth m c Ca) (mcF (iall.pl cp) (of_decide_eq_true (an (an h).2).2)) hl hbo ia.v iall.a (f8 Z e0 X _ hX (an (an (an h).2).1).1).st ((E9 Z er X _ hX (an (an (an h).2).1).2).pl _)
 |.methd a m es,X,x,hX,h=>xM_ h λo ap l cp hl h=>by
  have hbo:=F0 (an (an h).1).1;have ia:=f8 Z a X _ hX (an (an h).1).2;have h2:=an (an (an h).2).2;have iall:=E9 Z es X _ hX h2.1;refine Snd.pl ?_ rfl;cases l with
  |nil=>exact(AH (an (an h).2).1).elim
  |cons z zs=>cases es with
   |nil=>exact(AH h2.1).elim
   |cons e0 er=>
    exact b48 hX.psx (F:=Z.F) (Ph:=Z.Phi) (C:=Z.C) (λc Ca i=>hX.mthd m c Ca i) (mcF (iall.pl cp) (of_decide_eq_true h2.2)) hl hbo ia.v iall.a (f8 Z e0 X _ hX (an h2.1).1).st ((E9 Z er X _ hX (an h2.1).2).pl _)
 |.make c es,X,x,hX,h=>xG_ h λq l ps h1 h=>by
  have iall:=E9 Z es X _ hX (an h).2;refine Snd.pl ?_ rfl
  by_cases hF:Z.MF (c9 c "__init__")=AC
  ·obtain⟨Ca,k,f,fd,ps,hn,M,Fo,hr,hm,hb⟩:=hX.mks c hF;cases l with
   |nil=>
    cases es with
    |nil=>exact PE.imp (b44 hX.psx hn M Fo hr (o6 h1) hm hb (B8 (an h).1).1) λ_ _ _=>G2 λ_ _ _ ht=>(by exact ht.2)
    |cons _ _=>exact(AH (an h).2).elim
   |cons z zs=>
    cases es with
    |nil=>exact(AH (an h).2).elim
    |cons e0 er=>
     exact PE.imp (b87 hX.psx hn M Fo hr (o6 h1) hm hb iall.a (B8 (an h).1).1 (f8 Z e0 X _ hX (an (an h).2).1).st ((E9 Z er X _ hX (an (an h).2).2).pl _)) λ_ _ _=>G2 λ_ _ _ ht=>ht.2
  ·exact O4 hF λ_ _ _ ht=>ht.1
 |.app a b,X,x,hX,h=>X8 h λo ap p cp hl h1 h2 h3=>
  have ib:=f8 Z b X _ hX h3
  Snd.pl (by exact cj2 (f8 Z a X _ hX h2).v ib.v (F0 h1) ib.st hl) rfl
 |.ext a b,X,x,hX,h=>X8 h λo ap p cp hl h1 h2 h3=>
  have ib:=f8 Z b X _ hX h3
  Snd.pl (by exact ck3 (f8 Z a X _ hX h2).v ib.v (F0 h1) ib.st hl) rfl
 |.popAt a b,X,x,hX,h=>X8 h λo ap p cp hl h1 h2 h3=>
  have ib:=f8 Z b X _ hX h3
  Snd.pl (by exact bz7 (f8 Z a X _ hX h2).v ib.v (F0 h1) ib.st hl) rfl
 |.pop a,X,x,hX,h=>bl4 h λo ap cp hl h1 h2=>Snd.pl (by exact cr0 (f8 Z a X _ hX h2).v (F0 h1) hl) rfl
 |.denu a,X,x,hX,h=>D9 h λq z ps h1 h=>D9 (C:=λz=>Snd Z X (.denu a) (.Call (.Name "dict" q) [z] [] ps)) h λq2 p ps2 h2 h3=>
  have ia:=f8 Z a X _ hX h3
  Snd.pl (by exact b63 hX.calm (o6 h1) (hX.blt' _) (o6 h2) (hX.blt' _) ia.v ia.st) rfl
 |.igt a b,X,x,hX,h=>X8 h λo ap p cp hl h1 h2 h3=>
  have ib:=f8 Z b X _ hX h3
  Snd.pl (by exact cv6 hX.units (f8 Z a X _ hX h2).v ib.v (F0 h1) ib.st hl) rfl
 |.isX c a,X,x,hX,h=>ab6 h λq p r ps h1 h2=>N8 (C:=λr=>Snd Z X (.isX c a) (.Call (.Name "isinstance" q) [p,r] [] ps)) (an h2).1 λnp=>by
  have ia:=f8 Z a X _ hX (an (an (an h2).2).2).2;refine Snd.pl ?_ rfl
  by_cases hc:c∈Z.C "!ix"
  ·rcases hX.ixc c hc with⟨Ca,hm,K⟩|⟨rfl,hm,K⟩
   ·exact PE.imp (bg1 (cv:=.ref Ca) K (λu' r=>r) (ap6 (o6 (an (an h2).2).1) hm rfl (B8 (an (an (an h2).2).2).1).1) (o6 h1) (hX.blt' _) ia.v ia.st) λ_ _ _=>G2 λ_ _ _ ht=>ht.2
   ·exact PE.imp (bg1 (cv:=.ty "ValueError") K (λu' r=>r) (bc6 (o6 (an (an h2).2).1) hm (by decide+kernel) rfl) (o6 h1) (hX.blt' _) ia.v ia.st) λ_ _ _=>G2 λ_ _ _ ht=>ht.2
  ·exact O4 hc λ_ _ _ ht=>ht.1
 |.mkx c,X,x,hX,h=>xG_ h λq l ps h1 h=>by
  refine Snd.pl ?_ rfl;cases l with
  |cons=>exact(AH (an h).2).elim
  |nil=>
   by_cases hc:c∈Z.C "!mx"
   ·exact PE.imp (cm1 (hX.mxc c hc) (o6 h1) (B8 (an h).1).1) λ_ _ _=>G2 λ_ _ _ ht=>ht.2
   ·exact O4 hc λ_ _ _ ht=>ht.1
 |.mks a,X,x,hX,h=>D9 h λq p ps h1 h=>by
  have ia:=f8 Z a X _ hX h;refine Snd.pl ?_ rfl
  by_cases hc:Z.C "!ns"≠[]
  ·by_cases hl:Z.MF "law"=AC
   ·exact PE.imp (ck9 (hX.ncf hc hl) hX.psx (o6 h1) ia.v ia.st) λ_ _ _=>G2 λ_ _ _ ht=>ht.2.2
   ·exact O4 hl λ_ _ _ ht=>ht.2.1
  ·exact O4 hc λ_ _ _ ht=>ht.1
 |.xat a,X,x,hX,h=>xA_ h λo g ap h=>by
  cases beq_iff_eq.1 (an h).1;refine Snd.pl ?_ rfl
  by_cases hc:Z.C "!ns"≠[]
  ·exact PE.imp (cr6 (hX.nsx hc) (f8 Z a X _ hX (an (an h).2).2).v (C7 (F0 (an (an h).2).1))) λ_ _ _=>G2 λ_ _ _ ht=>ht.2
  ·exact O4 hc λ_ _ _ ht=>ht.1
 |.dnt,X,x,hX,h=>xD_ h λl r p h=>by
  cases l with
  |cons=>exact(AH h).elim
  |nil=>cases r with
   |cons=>exact(AH h).elim
   |nil=>exact Snd.pl (by exact cn1 (c:=Z.C "!kt") λhz=>by rw[hX.kt];cases e:Z.C "!kt" with|nil=>exact absurd e hz|cons _ _=>rfl) rfl
 |.dgt a b,X,x,hX,h=>X8 h λo ap p cp hl h1 h2 h3=>
  have ib:=f8 Z b X _ hX h3
  Snd.pl (by exact cs1 hX.units (f8 Z a X _ hX h2).v ib.v (F0 h1) ib.st hl) rfl
 |.din ne a b,X,x,hX,h=>ai2 h λq p r ps h=>by
  have e:=beq_iff_eq.1 (an h).1;have ia:=f8 Z a X _ hX (an (an h).2).1;have ib:=f8 Z b X _ hX (an (an h).2).2;exact Snd.cm (by exact cu3 e hX.units ia.v ib.v ib.se) (by unfold wpT;exact cn9 e hX.units ia.v ib.v ib.se)
 |.lrev a,X,x,hX,h=>bl4 h λo ap cp hl h1 h2=>Snd.pl (by exact cd3 (f8 Z a X _ hX h2).v (F0 h1) hl) rfl
 |.index a b,X,x,hX,h=>X8 h λo ap p cp hl h1 h2 h3=>
  have ib:=f8 Z b X _ hX h3
  Snd.pl (by exact b43 hX.units (f8 Z a X _ hX h2).v ib.v (F0 h1) ib.st hl) rfl
 |.comp Nc fr k t it c e,X,x,hX,h=>de0 h λel g scope pos h=>by
  refine l1_ (C:=λg=>Snd Z X (.comp Nc fr k t it c e) (.ListComp el g scope pos)) h λg h=>?_;obtain⟨tg,itx,ifs,n⟩:=g;obtain⟨h0,h⟩:=an h;cases(beq_iff_eq.1 h0:n=0);obtain⟨h1,h⟩:=an h;obtain⟨h2,h⟩:=an h;obtain⟨h3,h⟩:=an h;have Sc:=a01 h1;refine Snd.pl ?_ rfl
  by_cases hz:Z.X=AG
  case neg=>exact O4 hz λ_ _ _ ht=>ht.1
  exact(PE.imp (ca8 hX.calm Sc (as9 Z it X tg itx hX h2)
   (λC fp pins s H=>at0 (X:=X.comp scope Nc C fp pins s H) (ow:=AG) hX.calm Sc.nd nofun h3)
   (λC fp pins s H=>bk6 (X:=X.comp scope Nc C fp pins s H) (an h).2 λx h=>f8 Z c (X.comp scope Nc C fp pins s H) x (hX.comp hz (ae5 h1) Sc C fp pins s H) h)
   (λC fp pins s H=>(f8 Z e (X.comp scope Nc C fp pins s H) el (hX.comp hz (ae5 h1) Sc C fp pins s H) (an h).1).v) (as1 h2)) λσ H Q q=>a00 (G2 (λ_ _ _ ht=>ht.2) q))
theorem E9(Z:Sg):∀(es:Es)(X:Cx)(xs:List AS),XOk Z X->mEs es X.env.scope X.N xs=AC->SndA Z X es xs
 |.nil,X,xs,hX,h=>by
  cases xs with
  |nil=>exact⟨by exact be5,λ_=>rfl⟩
  |cons=>exact(AH h).elim
 |.cons e r,X,xs,hX,h=>by
  cases xs with
  |nil=>exact(AH h).elim
  |cons x xs=>
   have i0:=f8 Z e X _ hX (an h).1;have ir:=E9 Z r X _ hX (an h).2;refine⟨by exact V8 i0.v ir.a i0.st,λpos=>?_⟩;rw[n8 i0.st];exact ir.pl pos
theorem bj7(Z:Sg):∀(vs:Es)(X:Cx)(ks:List Str)(keys:List (Option AS))(xs:List AS)(dp:Pos),XOk Z X->mKs ks keys=AC->mEs vs X.env.scope X.N xs=AC->ks.length=vs.len ->
  DPs X dp keys xs ks (r9 Z vs)/\keys.all (·.isSome)=AC/\keys.length=xs.length/\keys.length=ks.length
 |.nil,X,ks,keys,xs,dp,hX,h1,h2,h3=>by
  cases xs with
  |cons=>exact(AH h2).elim
  |nil=>cases ks with
   |cons=>cases h3
   |nil=>cases keys with
    |nil=>exact⟨by exact cl8,rfl,rfl,rfl⟩
    |cons=>exact(AH h1).elim
 |.cons e r,X,ks,keys,xs,dp,hX,h1,h2,h3=>by
  cases xs with
  |nil=>exact(AH h2).elim
  |cons x xs=>cases ks with
   |nil=>cases h3
   |cons k ks=>cases keys with
    |nil=>exact(AH h1).elim
    |cons kx keys=>cases kx with
     |none=>exact(AH h1).elim
     |some kx=>
      obtain⟨d,a1,a2,a3⟩:=bj7 Z r X ks keys _ dp hX (an h1).2 (an h2).2 (Fs h3);refine U6 (C:=λkx=>DPs X dp (AA kx::keys) (x::xs) (k::ks) (r9 Z (.cons e r))/\_) (an h1).1 λn p=>?_;exact⟨by exact cd9 (f8 Z e X _ hX (an h2).1).v d,a1,congrArg (·+1) a2,congrArg (·+1) a3⟩
theorem as9(Z:Sg):∀(it:It)(X:Cx)(tg x:AS),XOk Z X->mIt it X.env.scope X.N tg x=AC->PI X tg x (upI X.K (B3 Z it))
 |.seq e,X,tg,x,hX,h=>by exact cu4 (f8 Z e X x hX h).v
 |.rng a,X,tg,x,hX,h=>D9 (C:=λx=>PI X tg x (upI X.K (B3 Z (.rng a)))) h λq p ps h1 h2=>
  have ia:=f8 Z a X _ hX h2
  (by exact cn3 (o6 h1) (hX.blt' _) ia.v ia.st)
 |.rng2 a b,X,tg,x,hX,h=>ab6 (C:=λx=>PI X tg x (upI X.K (B3 Z (.rng2 a b)))) h λq p r ps h1 h2=>
  have ia:=f8 Z a X _ hX (an h2).1;have ib:=f8 Z b X _ hX (an h2).2
  (by exact cd2 (o6 h1) (hX.blt' _) ia.v ib.v ia.st ib.st)
 |.enum e,X,tg,x,hX,h=>xT_ (C:=λtg=>PI X tg x (upI X.K (B3 Z (.enum e)))) (an h).1 λl n tp _=>D9 (C:=λx=>PI X _ x (upI X.K (B3 Z (.enum e)))) (an h).2 λq p ps h1 h2=>
  have ia:=f8 Z e X _ hX h2
  (by exact cb1 (o6 h1) (hX.blt' _) ia.v ia.st)
 |.revt e,X,tg,x,hX,h=>D9 (C:=λx=>PI X tg x (upI X.K (B3 Z (.revt e)))) h λq p ps h1 h2=>
  have ia:=f8 Z e X _ hX h2
  (by exact b71 (o6 h1) (hX.blt' _) ia.v ia.st)
 |.rev e,X,tg,x,hX,h=>D9 (C:=λx=>PI X tg x (upI X.K (B3 Z (.rev e)))) h λq p ps h1 h2=>
  have ia:=f8 Z e X _ hX h2
  (by exact cj4 (o6 h1) (hX.blt' _) ia.v ia.st)
end
end
section
variable [Tbs]
variable{x:BP}{C:BP->Prop}{e:E}{sc scope:BE}{N:List Str}{el:AS}{gs:List Il}{p:Pos}{n i:Nat}{env:Env}
abbrev sA(x:BP)(k:List AS->AS->Pos->Bool):Bool:=if h:x.ctorIdx=5 then Fg x h k else AG
def sA_{k}(h:sA x k=AC)(H:∀l x p,k l x p=AC->C (.Assign l x p)):C x:=
 dE h λe=>Fg x e (λl x p _=>H l x p) e
abbrev sX(x:BP)(k:AS->Pos->Bool):Bool:=if h:x.ctorIdx=24 then Gm x h k else AG
def sX_{k}(h:sX x k=AC)(H:∀x p,k x p=AC->C (.Expr x p)):C x:=
 dE h λe=>Gm x e (λx p _=>H x p) e
abbrev sI(x:BP)(k:AS->List BP->List BP->Pos->Bool):Bool:=if h:x.ctorIdx=12 then HZ x h k else AG
def sI_{k}(h:sI x k=AC)(H:∀x a b p,k x a b p=AC->C (.If x a b p)):C x:=
 dE h λe=>HZ x e (λx a b p _=>H x a b p) e
abbrev sR(x:BP)(k:Option AS->Pos->Bool):Bool:=if h:x.ctorIdx=3 then Fh x h k else AG
def sR_{k}(h:sR x k=AC)(H:∀x p,k x p=AC->C (.Return x p)):C x:=
 dE h λe=>Fh x e (λx p _=>H x p) e
abbrev sF(x:BP)(k:AS->AS->List BP->List BP->Pos->Bool):Bool:=if h:x.ctorIdx=9 then Gy x h k else AG
def sF_{k}(h:sF x k=AC)(H:∀g x a b p,k g x a b p=AC->C (.For g x a b p)):C x:=
 dE h λe=>Gy x e (λg x a b p _=>H g x a b p) e
abbrev sW(x:BP)(k:AS->List BP->List BP->Pos->Bool):Bool:=if h:x.ctorIdx=11 then GI x h k else AG
def sW_{k}(h:sW x k=AC)(H:∀x a b p,k x a b p=AC->C (.While x a b p)):C x:=
 dE h λe=>GI x e (λx a b p _=>H x a b p) e
abbrev sC(x:BP)(k:Pos->Bool):Bool:=if h:x.ctorIdx=27 then Ew x h k else AG
def sC_{k}(h:sC x k=AC)(H:∀p,k p=AC->C (.Continue p)):C x:=
 dE h λe=>Ew x e (λp _=>H p) e
abbrev sP(x:BP)(k:Pos->Bool):Bool:=if h:x.ctorIdx=25 then Gn x h k else AG
def sP_{k}(h:sP x k=AC)(H:∀p,k p=AC->C (.Pass p)):C x:=
 dE h λe=>Gn x e (λp _=>H p) e
abbrev sD(x:BP)(k:Str->DM->List BP->List AS->Option AS->List TypeParam->BE->Option BE->Str->Pos->Bool):Bool:=if h:x.ctorIdx=0 then EC x h k else AG
def sD_{k}(h:sD x k=AC)(H:∀name c a dl f d scope ts b p,k name c a dl f d scope ts b p=AC->C (.FunctionDef name c a dl f d scope ts b p)):C x:=
 dE h λe=>EC x e (λname c a dl f d scope ts b p _=>H name c a dl f d scope ts b p) e
abbrev sTr(x:BP)(k:List BP->List FE->List BP->List BP->Pos->Bool):Bool:=if h:x.ctorIdx=17 then Gz x h k else AG
def c80{k}(h:sTr x k=AC)(H:∀a b c d p,k a b c d p=AC->C (.Try a b c d p)):C x:=
 dE h λe=>Gz x e (λa b c d p _=>H a b c d p) e
abbrev sRa(x:BP)(k:Option AS->Option AS->Pos->Bool):Bool:=if h:x.ctorIdx=16 then GJ x h k else AG
def dd1{k}(h:sRa x k=AC)(H:∀a b p,k a b p=AC->C (.Raise a b p)):C x:=
 dE h λe=>GJ x e (λa b p _=>H a b p) e
abbrev sA1(s:BP)(k:AS->AS->Bool):Bool:=sA s λl x _=>l1 l λt=>k t x
def X7{s}{k}{C:BP->Prop}(h:sA1 s k=AC)(H:∀t x p,k t x=AC->C (.Assign [t] x p)):=
 sA_ h λl x p h=>l1_ (C:=λl=>C (.Assign l x p)) h λt=>H t x p
abbrev nmB(N:List Str)(sc:BE)(i:Nat)(x:Str):Bool:=(N[i]?==AA x)&&(ab8 sc x&&okN x)
abbrev nsB(N:List Str)(sc:BE)(i:Nat)(x:Str):Bool:=(N[i]?==AA x)&&(O2 sc x&&!(N.contains (z4 x)))
abbrev mCl(N:List Str)(sc:BE)(i t u:Nat)(f:Str)(l:List BP):Bool:=l1 l λs=>sA1 s λtg v=>(xN tg λy _=>nsB N sc i y)&&(okN f&&(!(isM f)&&xC2 f sc v λa b=>(xN a λy _=>nmB N sc t y)&&xN b λy _=>nmB N sc u y))
abbrev mHd(N:List Str)(sc:BE)(c e:Nat)(hd:FE):Bool:=match hd with
 |.ExceptHandler ty n b _=>DR (motive:=λ_=>Bool) ty AG λty=>DR (motive:=λ_=>Bool) n AG λn=>
 M4 ty "EvenError"&&(glb sc "EvenError"&&(nmB N sc e n&&(lcl sc n&&(!(e==c)&&l1 b λs=>sA1 s λtg v=>(xN tg λy _=>nsB N sc c y)&&M4 v n))))
abbrev mTr(f:Str)(t u i c e:Nat)(sc:BE)(N:List Str)(s:BP):Bool:=sTr s λbd hs oe fb _=>oe.isEmpty&&(fb.isEmpty&&(l1 hs (mHd N sc c e)&&mCl N sc i t u f bd))
mutual
noncomputable def mS:S->BE->List Str->BP->Bool
 |.set i e,sc,N,s=>sA1 s λt x=>mE e sc N x&&xN t λy _=>(N[i]?==AA y)&&(O2 sc y&&!(N.contains (z4 y)))
 |.dput o i v,sc,N,s=>sA1 s λt x=>(mE v sc N x&&U3 x)&&xS t λp q _=>mE o sc N p&&mE i sc N q
 |.put o i v,sc,N,s=>sA1 s λt x=>(mE v sc N x&&U3 x)&&xS t λp q _=>mE o sc N p&&mE i sc N q
 |.fldS o f v,sc,N,s=>sA1 s λt x=>(mE v sc N x&&U3 x)&&xA t λp g _=>(g==f)&&mE o sc N p
 |.ex e,sc,N,s=>sX s λx _=>mE e sc N x&&U3 x
 |.iff c a b,sc,N,s=>sI s λx p q _=>(mE c sc N x&&D7 x)&&(mSs a sc N p&&mSs b sc N q)
 |.ret e,sc,N,s=>sR s λx _=>DR (motive:=λ_=>Bool) x AG (mE e sc N)
 |.retN,_,_,s=>sR s λx _=>x.isNone
 |.for t it b,sc,N,s=>sF s λtg x p q _=>q.isEmpty&&(mTg AC t sc N tg&&(mIt it sc N tg x&&mSs b sc N p))
 |.while c b,sc,N,s=>sW s λx p q _=>q.isEmpty&&((mE c sc N x&&D7 x)&&mSs b sc N p)
 |.try1 f t u i c e,sc,N,s=>mTr f t u i c e sc N s
 |.raise,sc,_,s=>sRa s λx c _=>c.isNone&&(glb sc "NoKind"&&DR (motive:=λ_=>Bool) x AG λx=>xG "NoKind" sc x (·.isEmpty))
 |.cont,_,_,s=>sC s λ_=>AC
 |.dead,_,_,_=>AC
 |.dfn i np Nl cp b,sc,N,s=>sD s λname args body dl rt tp scope ts bind _=>(dl.isEmpty&&rt.isNone&&tp.isEmpty&&ts.isNone)&&(ae8 args).any λps=>(name==bind)&&((N[i]?==AA name)&&(O2 sc name&&(!(N.contains (z4 name))&&(N.contains v4&&(as8 sc N scope Nl ps np cp&&(!(Nl.contains v4)&&mSs b scope Nl body))))))
 |.pass,_,_,s=>sP s λ_=>AC
noncomputable def mSs:Ss->BE->List Str->List BP->Bool
 |.nil,_,_,l=>l.isEmpty
 |.cons s r,sc,N,l=>DW (motive:=λ_=>Bool) l AG λx xs=>mS s sc N x&&mSs r sc N xs
end
abbrev mFB(b:Ss)(sc:BE)(N:List Str)(fb:Dj):Prop:=N.contains v4=AG/\match fb with
 |.stmts l=>mSs b sc N l=AC
 |.expr x=>∃e,b=.cons (.ret e) .nil/\mE e sc N x=AC
@[reducible]noncomputable def HF(X:Cx):Prop:=∀y,Loc X.env.scope y->X.N.contains (z4 y)=AG->X.fn y=AC\/X.env.scope.names.lookup y=AA .local
def c00:mE e sc N (.SetComp el gs scope p)=AG:=by cases e<;>rfl
def c36{a b}:mE e sc N (.DictComp a b gs scope p)=AG:=by cases e<;>rfl
def cy8(h:mE e sc N (.ListComp el gs scope p)=AC):∃d fr k t a c b,e=.comp d fr k t a c b:=by
 cases e<;>first|exact⟨_,_,_,_,_,_,_,rfl⟩|exact absurd h AH
def Y6{x}{t}(h:U3 x=AC):Cp x t n env=pure AG:=by
 cases x<;>first|rfl|cases h
def ca2{x t}(h:U3 x=AC):Gp [t] x n env=pure AG:=Y6 h
def br7{py}{y}:∃b,Cp (.ListComp el gs scope p) (AA (.Name y py)) n env=pure b:=⟨_,rfl⟩
def au5{X}{x}(h:nmB X.N X.env.scope i x=AC):NvOk X i x:=⟨beq_iff_eq.1 (an h).1,ar6 (an (an h).2).1,(B8 (an (an h).2).2).1,(B8 (an (an h).2).2).2⟩
def bl2{X}{x}(a:HF X)(h:nsB X.N X.env.scope i x=AC):NwOk X i x:=⟨beq_iff_eq.1 (an h).1,S9 (an (an h).2).1,a _ (S9 (an (an h).2).1) (nt (an (an h).2).2)⟩
def db5{t u}{f}{l}{C:List BP->Prop}(h:mCl N sc i t u f l=AC)(H:∀xi xt xu e q2 k o g c,nsB N sc i xi=AC->nmB N sc t xt=AC->nmB N sc u xu=AC->okN f=AC->isM f=AG->glb sc f=AC->C [.Assign [.Name xi e] (.Call (.Name f q2) [.Name xt k,.Name xu o] [] g) c]):=by
 refine l1_ h λs h=>X7 (C:=λs=>C [s]) h λtg v c h=>?_;obtain⟨p,h⟩:=an h;obtain⟨r,h⟩:=an h;obtain⟨q,h⟩:=an h;exact xN_ (C:=λtg=>C [.Assign [tg] v c]) p λxi e p=>ab6 (C:=λv=>C [.Assign [.Name xi e] v c]) h λq2 a b g h4 h=>xN_ (C:=λa=>C [.Assign [.Name xi e] (.Call (.Name f q2) [a,b] [] g) c]) (an h).1 λxt k h5=>xN_ (C:=λb=>C [.Assign [.Name xi e] (.Call (.Name f q2) [.Name xt k,b] [] g) c]) (an h).2 λxu o h6=>H xi xt xu e q2 k o g c p h5 h6 r (nt q) h4
def dd5{c e}{hd}{C:FE->Prop}(h:mHd N sc c e hd=AC)(H:∀g xc u1 j u3 f a,nsB N sc c xc=AC->nmB N sc e g=AC->lcl sc g=AC->e≠c->glb sc "EvenError"=AC->C (.ExceptHandler (AA (.Name "EvenError" u1)) (AA g) [.Assign [.Name xc j] (.Name g u3) f] a)):C hd:=by
 obtain⟨ty,n,b,a⟩:=hd;cases ty with
 |none=>exact(AH h).elim
 |some ty=>cases n with
  |none=>exact(AH h).elim
  |some n=>
   obtain⟨r,h⟩:=an h;obtain⟨q,h⟩:=an h;obtain⟨p,h⟩:=an h;obtain⟨o,h⟩:=an h;obtain⟨m,h⟩:=an h;refine N8 (C:=λty=>C (.ExceptHandler (AA ty) (AA n) b a)) r λu1=>?_;exact l1_ (C:=λb=>C (.ExceptHandler (AA (.Name "EvenError" u1)) (AA n) b a)) h λs h=>X7 (C:=λs=>C (.ExceptHandler (AA (.Name "EvenError" u1)) (AA n) [s] a)) h λtg v f h=>xN_ (C:=λtg=>C (.ExceptHandler (AA (.Name "EvenError" u1)) (AA n) [.Assign [tg] v f] a)) (an h).1 λxc j h6=>N8 (C:=λv=>C (.ExceptHandler (AA (.Name "EvenError" u1)) (AA n) [.Assign [.Name xc j] v f] a)) (an h).2 λu3=>H n xc u1 j u3 f a h6 p o (by simpa using m) q
mutual
theorem db7(Z:Sg)(hm:∀(b:Ss)(sc:BE)(N:List Str)(l:List BP),mSs b sc N l=AC->N.contains v4=AG->Tbs.mt b sc N (.stmts l)):∀(s:S)(X:Cx)(x:BP),XOk Z X->HF X->FrS X Z.X->mS s X.env.scope X.N x=AC->PS X x (upS X.K (wpS Z s))
 |.set i e,X,x,hX,hf,hR,h=>X7 (C:=λx=>PS X x (upS X.K (wpS Z (.set i e)))) h λtx v pos h=>xN_ (C:=λtx=>PS X (.Assign [tx] v pos) (upS X.K (wpS Z (.set i e)))) (an h).2 λy py h2=>by
  have h3:=(an h).1;have ie:=f8 Z e X v hX h3;have h1:=beq_iff_eq.1 (an h2).1;have hl:=S9 (an (an h2).2).1;have hf:=hf y hl (nt (an (an h2).2).2)
  by_cases hc:U3 v=AC
  ·exact bg8 hX.nd h1 hl ie.v (Y6 hc) hf
  ·cases v with
   |ListComp el gs scope p=>
    obtain⟨b,hb⟩:=br7 (el:=el) (gs:=gs) (scope:=scope) (p:=p) (py:=py) (y:=y) (n:=pos.line) (env:=X.env);cases b with
    |false=>exact bg8 hX.nd h1 hl ie.v hb hf
    |true=>
     obtain⟨Nc,fr,k,t,it,c,e,rfl⟩:=cy8 h3;revert hb;refine l1_ (C:=λgs=>Cp (.ListComp el gs scope p) (AA (.Name y py)) pos.line X.env=pure AC->PS X (.Assign [.Name y py] (.ListComp el gs scope p) pos) (upS X.K (wpS Z (.set i (.comp Nc fr k t it c e))))) h3 λg h hb=>?_;obtain⟨tg,itx,ifs,n⟩:=g;obtain⟨h0,h⟩:=an h;cases(beq_iff_eq.1 h0:n=0);obtain⟨g1,h⟩:=an h;obtain⟨g2,h⟩:=an h;obtain⟨g3,h⟩:=an h;have Sc:=a01 g1
     by_cases hz:Z.X=AG
     case neg=>exact λ_ _ _ _ _ _⟨_,_,_,_,_,ht,_⟩=>absurd ht.1 hz
     exact PS.imp (bq3 hX.calm hX.nd h1 hl hf Sc (as9 Z it X tg itx hX g2)
      (λC fp pins s H=>at0 (X:=X.comp scope Nc C fp pins s H) (ow:=AG) hX.calm Sc.nd nofun g3)
      (λC fp pins s H=>bk6 (X:=X.comp scope Nc C fp pins s H) (an h).2 λx h=>f8 Z c (X.comp scope Nc C fp pins s H) x (hX.comp hz (ae5 g1) Sc C fp pins s H) h)
      (λC fp pins s H=>(f8 Z e (X.comp scope Nc C fp pins s H) el (hX.comp hz (ae5 g1) Sc C fp pins s H) (an h).1).v) hb (as1 g2)) λF σ H⟨env,st,Fd,hE,hS,ht',hq⟩=>
      a00 ⟨env,st,(λd st'=>Fd.nx (env.set i (AA d)) st'),hE,hS,ht'.2,λv d H' st' ev is rs q=>hq.nx _ _ H' st' ev ((hE.mono (ev.tk hS)).set is i) rs q⟩
   |SetComp el gs scope p=>exact(AH (c00.symm.trans h3)).elim
   |DictComp a b gs scope p=>exact(AH (c36.symm.trans h3)).elim
   |_=>exact absurd rfl hc
 |.dput o i v,X,x,hX,hf,hR,h=>X7 (C:=λx=>PS X x (upS X.K (wpS Z (.dput o i v)))) h λtx y pos h=>xS_ (C:=λtx=>PS X (.Assign [tx] y pos) (upS X.K (wpS Z (.dput o i v)))) (an h).2 λp q ps h2=>
  (by exact cd5 hX.units (f8 Z v X y hX (an (an h).1).1).v (f8 Z o X p hX (an h2).1).v (f8 Z i X q hX (an h2).2).v (Y6 (an (an h).1).2))
 |.put o i v,X,x,hX,hf,hR,h=>X7 (C:=λx=>PS X x (upS X.K (wpS Z (.put o i v)))) h λtx y pos h=>xS_ (C:=λtx=>PS X (.Assign [tx] y pos) (upS X.K (wpS Z (.put o i v)))) (an h).2 λp q ps h2=>by
  have iq:=f8 Z i X q hX (an h2).2;refine cm3 (f8 Z v X y hX (an (an h).1).1).v (f8 Z o X p hX (an h2).1).v iq.v (λw=>?_) (ca2 (an (an h).1).2) rfl;cases q<;>first|rfl|exact absurd rfl (iq.sl _ _ _ _)
 |.fldS o f v,X,x,hX,hf,hR,h=>X7 (C:=λx=>PS X x (upS X.K (wpS Z (.fldS o f v)))) h λtx y pos h=>xA_ (C:=λtx=>PS X (.Assign [tx] y pos) (upS X.K (wpS Z (.fldS o f v)))) (an h).2 λp g ps h2=>by
  cases beq_iff_eq.1 (an h2).1;exact cc8 (hX.cls _) (f8 Z v X y hX (an (an h).1).1).v (f8 Z o X p hX (an h2).2).v (Y6 (an (an h).1).2)
 |.ex e,X,x,hX,hf,hR,h=>sX_ (C:=λx=>PS X x (upS X.K (wpS Z (.ex e)))) h λx p h=>(by exact c43 (f8 Z e X _ hX (an h).1).v (Y6 (an h).2))
 |.iff c a b,X,x,hX,hf,hR,h=>sI_ (C:=λx=>PS X x (upS X.K (wpS Z (.iff c a b)))) h λx p q ps h=>
  (by exact c57 ((f8 Z c X _ hX (an (an h).1).1).t (an (an h).1).2) (U0 Z hm a X _ hX hf hR (an (an h).2).1) (U0 Z hm b X _ hX hf hR (an (an h).2).2))
 |.ret e,X,x,hX,hf,hR,h=>sR_ (C:=λx=>PS X x (upS X.K (wpS Z (.ret e)))) h λx p h=>by
  cases x with
  |none=>exact(AH h).elim
  |some x=>exact cl2 (f8 Z e X _ hX h).v
 |.retN,X,x,hX,hf,hR,h=>sR_ (C:=λx=>PS X x (upS X.K (wpS Z .retN))) h λx p h=>by
  cases x with
  |some _=>exact(AH h).elim
  |none=>exact b99
 |.for t it b,X,x,hX,hf,hR,h=>sF_ (C:=λx=>PS X x (upS X.K (wpS Z (.for t it b)))) h λtg x p q ps h=>by
  cases q with
  |cons=>exact(AH h).elim
  |nil=>exact cu5 hR.pass hX.calm (as9 Z it X _ _ hX (an (an (an h).2).2).1) (at0 hX.calm hX.nd (λ_=>hf) (an (an h).2).1) (U0 Z hm b X _ hX hf hR (an (an (an h).2).2).2) (as1 (an (an (an h).2).2).1)
 |.while c b,X,x,hX,hf,hR,h=>sW_ (C:=λx=>PS X x (upS X.K (wpS Z (.while c b)))) h λx p q ps h=>by
  cases q with
  |cons=>exact(AH h).elim
  |nil=>exact b19 hR.pass ((f8 Z c X _ hX (an (an (an h).2).1).1).t (an (an (an h).2).1).2) (U0 Z hm b X _ hX hf hR (an (an h).2).2)
 |.try1 f t u i c e,X,x,hX,hf,hR,h=>c80 (C:=λx=>PS X x (upS X.K (wpS Z (.try1 f t u i c e)))) h λbd hs oe fb pos h=>by
  obtain⟨h1,k1⟩:=an h;obtain⟨h2,k2⟩:=an k1;obtain⟨h3,k3⟩:=an k2;clear h k1 k2;cases oe with
  |cons=>exact(AH h1).elim
  |nil=>cases fb with
   |cons=>exact(AH h2).elim
   |nil=>
    refine l1_ (C:=λhs=>PS X (.Try bd hs [] [] pos) (upS X.K (wpS Z (.try1 f t u i c e)))) h3 λhd h=>dd5 (C:=λhd=>PS X (.Try bd [hd] [] [] pos) (upS X.K (wpS Z (.try1 f t u i c e)))) h λxe xc u1 u2 u3 u4 u5 n1 n2 n3 n4 n5=>?_;refine db5 (C:=λbd=>PS X (.Try bd [.ExceptHandler (AA (.Name "EvenError" u1)) (AA xe) [.Assign [.Name xc u2] (.Name xe u3) u4] u5] [] [] pos) (upS X.K (wpS Z (.try1 f t u i c e)))) k3 λxi xt xu q1 q2 q3 q4 q5 q6 m1 m2 m3 m4 m5 m6=>?_;refine ce1 hR hX.nd hX.tr (au5 m2) (au5 m3) (bl2 hf m1) (bl2 hf n1) (au5 n2) (by simpa[lcl]using n3) n4 (o6 n5) (o6 m6) (B8 m4).1 λhF=>⟨?_,hX.tf f m5 hF⟩;obtain⟨k,a,fd,ps,F,hr,hm,hk,hb,_⟩:=(hX.fns f m5 hF).ex;exact⟨k,a,fd,ps,F,hr,hm,hk,hb⟩
 |.raise,X,x,hX,hf,hR,h=>dd1 (C:=λx=>PS X x (upS X.K (wpS Z .raise))) h λa c p h=>by
  obtain⟨h1,k1⟩:=an h;obtain⟨h2,k2⟩:=an k1;clear h k1;cases c with
  |some=>exact(AH h1).elim
  |none=>
   cases a with
   |none=>exact(AH k2).elim
   |some a=>
    refine xG_ (C:=λa=>PS X (.Raise (AA a) AE p) (upS X.K (wpS Z .raise))) k2 λq l cp h1 h=>?_;cases l with
    |cons=>exact(AH h).elim
    |nil=>exact b46 hR hX.tr hX.calm (o6 h1)
 |.cont,X,x,hX,hf,hR,h=>sC_ (C:=λx=>PS X x (upS X.K (wpS Z .cont))) h λ_ _=>(by exact b64)
 |.dfn i np Nl cp b,X,x,hX,hf,hR,h=>sD_ (C:=λx=>PS X x (upS X.K (wpS Z (.dfn i np Nl cp b)))) h λname args body dl rt tp scope ts bind p h=>by
  cases hp:ae8 args with
  |none=>rw[hp]at h;exact(AH (an h).2).elim
  |some ps=>
   rw[hp]at h;obtain⟨z,j⟩:=an h;obtain⟨h0,j0⟩:=an (show(_&&_)=AC from j);obtain⟨h1,j1⟩:=an j0;obtain⟨h2,j2⟩:=an j1;obtain⟨h3,j3⟩:=an j2;obtain⟨h4,j4⟩:=an j3;obtain⟨h5,j5⟩:=an j4;clear h j j0 j1 j2 j3 j4;cases beq_iff_eq.1 h0;cases dl with
   |cons=>exact(AH z).elim
   |nil=>cases rt with
    |some=>exact(AH z).elim
    |none=>cases tp with
     |cons=>exact(AH z).elim
     |nil=>cases ts with
      |some=>exact(AH z).elim
      |none=>
       obtain⟨L,hc⟩:=hX.lam h4;obtain⟨a1,a2,a3,a4,a5⟩:=br8 hp;exact cq9 hX.nd (beq_iff_eq.1 h1) (S9 h2) (hf _ (S9 h2) (nt h3)) a1 a2 a4 L (cc4 h5 hc (hm b scope Nl body (an j5).2 (nt (an j5).1)) (λname qual cl doc pm cv ct us hl=>a5 name qual _ scope cl doc pm cv ct us hl))
 |.dead,X,x,hX,hf,hR,h=>λ_ _ _ _ _ _⟨_,_,_,_,_,ht,_⟩=>ht.elim
 |.pass,X,x,hX,hf,hR,h=>sP_ (C:=λx=>PS X x (upS X.K (wpS Z .pass))) h λ_ _=>(by exact cg9)
theorem U0(Z:Sg)(hm:∀(b:Ss)(sc:BE)(N:List Str)(l:List BP),mSs b sc N l=AC->N.contains v4=AG->Tbs.mt b sc N (.stmts l)):∀(l:Ss)(X:Cx)(xs:List BP),XOk Z X->HF X->FrS X Z.X->mSs l X.env.scope X.N xs=AC->PSs X xs (upS X.K (i5 Z l))
 |.nil,X,xs,hX,hf,hR,h=>by
  cases xs with
  |nil=>exact cs7
  |cons=>exact(AH h).elim
 |.cons s r,X,xs,hX,hf,hR,h=>by
  cases xs with
  |nil=>exact(AH h).elim
  |cons x xs=>
   rw[i5];exact b82 (db7 Z hm s X _ hX hf hR (an h).1) (U0 Z hm r X _ hX hf hR (an h).2)
end
end
section
variable [Tbs]
variable{mg:Str->Option AF}{h base:Au}{f c m qual:Str}{st:BP}{ps N:List Str}{fa a:AI}{od:Option AI}{sl:Array (Option AF)}{dc pm cd ct:AF}{n:Nat}{fd:BZ}{w:At}{P:AZ}{H:Hp}{X:Cx}{s:AJ}{bX:Bool}
structure Stat0(st:BP)(d:Def)(ps:List Str):Prop where
 sc:FnScope d.N ps (l9 st)
 np:ps.length=d.np
 body:mSs d.body (l9 st) d.N (t3 st)=AC
structure Stat(st:BP)(d:Def)(ps:List Str)(x f:Str):Prop extends Stat0 st d ps where
 bind:∀(kV doc pm:AF)(an:Option AI)(cdv ct:AF)(us:List AF),us.length=ps.length->EF (CZ x f (y0 st) (t3 st) (l9 st) .none kV doc pm an cdv ct) ⟨us,[]⟩=pure (ps.zip us)
structure FunD(K:AM)(x qual:Str)(st:BP)(f:AI)(fd:BZ):Prop where
 ex:∃(oc:AF)(od:Option AI)(dV kV doc pm:AF)(an:Option AI)(cdv ct:AF)(osl:Array (Option AF)),
  fd=CZ x qual (y0 st) (t3 st) (l9 st) dV kV doc pm an cdv ct/\K.lookup f=AA ⟨oc,od,.func fd,osl⟩/\CQ K cdv qual=AC
 kp:BQ K (.ref f)=AC
structure DefAt(K:AM)(f:Str)(d:Def)(a:AI)(fd:BZ)(ps:List Str):Prop where
 ex:∃(st:BP)(x:Str),FunD K x f st a fd/\Stat0 st d ps
 bd:o8 K fd ps []
 lam:d.N.contains v4=AC->∃c P,fd.code=.ref c/\CA K c P=AC/\P∈Tbs.ps
structure DefOk(K:AM)(mg:Str->Option AF)(df:Option Int)(f:Str)(d:Def):Prop where
 ex:∃(a:AI)(fd:BZ)(ps:List Str),DefAt K f d a fd ps/\mg f=AA (.ref a)/\Ae K AK f=AA (AA (.ref a))/\(df=AA 0->o8 K fd ps [.none])
structure MthOk(K:AM)(mg:Str->Option AF)(df:Option Int)(c m:Str)(d:Def):Prop where
 ex:∃(Ca a:AI)(fd:BZ)(ps:List Str),DefAt K (c9 c m) d a fd ps/\Ae K AK c=AA (AA (.ref Ca))/\mg c=AA (.ref Ca)/\Cls K Ca/\Meth K Ca m a/\(m="__init__"->Mk K Ca a)/\∀i,df=AA i->∃tk,o8 K fd ps [.int i tk]
 nom:Ae K AK (c9 c m)=AA AE
theorem T3:∀{a b d c:List Nat},(46:Nat)∉d->(46:Nat)∉c->a++46::b=d++46::c->a=d/\b=c
 |[],b,[],c,_,_,h=>⟨rfl,by simpa using h⟩
 |[],b,x::d,c,i,_,h=>by
  simp only[Fi,Cb,Ai]at h;exact absurd (h.1▸Bo) i
 |x::a,b,[],c,_,g,h=>by
  simp only[Fi,Cb,Ai]at h;exact absurd (h.2▸BK _ Bo) g
 |x::a,b,y::d,c,i,g,h=>by
  simp only[Cb,Ai]at h;obtain⟨e,f⟩:=T3 (λz=>i (Am _ z)) g h.2;exact⟨by rw[h.1,e],f⟩
def cv5{K:AM}{e:Option Int}{d:Def}{g:Option AI}{j b:AF}(X:K.In h)(G:h.Ns AK mg)(S:Stat st d ps f f)
  (i:Ae K AK f=AA (AA (.ref fa))) (l:K.lookup fa=AA ⟨j,od,.func (CZ f f (y0 st) (t3 st) (l9 st) .none b dc pm g cd ct),sl⟩) (m:CQ K cd f=AC) (k1:BQ K (.ref fa)=AC)
  (k:d.N.contains v4=AC->∃c P,cd=.ref c/\CA K c P=AC/\P∈Tbs.ps:=by exact λh=>absurd h (by decide+kernel)) (a:e=AE:=by decide+kernel):DefOk K mg e f d:=
 ⟨fa,_,ps,⟨⟨st,f,⟨⟨_,_,_,_,_,_,_,_,_,_,rfl,l,m⟩,k1⟩,S.toStat0⟩,.all (S.bind b dc pm g cd ct),k⟩,DG X G i,i,λh=>by rw[a]at h;cases h⟩
def ck6{K:AM}{d:Def}{a:AI}{i:Option AI}{k e:AF}{g:Option Int}(X:K.In h)(G:h.Ns AK mg)(S:Stat st d ps m (c9 c m))
  (q:Ae K AK (c9 c m)=AA AE) (j:Ae K AK c=AA (AA (.ref a))) (o:Cls K a) (f:Meth K a m fa) (hi:m="__init__"->Mk K a fa)
  (n:K.lookup fa=AA ⟨k,od,.func (CZ m (c9 c m) (y0 st) (t3 st) (l9 st) .none e dc pm i cd ct),sl⟩) (p:CQ K cd (c9 c m)=AC)
  (l:d.N.contains v4=AC->∃c P,cd=.ref c/\CA K c P=AC/\P∈Tbs.ps:=by exact λh=>absurd h (by decide+kernel)) (b:g=AE:=by decide+kernel):MthOk K mg g c m d:=
 ⟨⟨a,fa,_,ps,⟨⟨st,m,⟨⟨_,_,_,_,_,_,_,_,_,_,rfl,n,p⟩,f.kp⟩,S.toStat0⟩,.all (S.bind e dc pm i cd ct),l⟩,j,DG X G j,o,f,hi,λi h=>by rw[b]at h;cases h⟩,q⟩
def ca5{K:AM}{d:Def}{a T:AI}{g r:Option AI}{b:Array (Option AF)}{u e t:AF}{p:Option Int}{i:Int}{tk:Tok}(X:K.In h)(G:h.Ns AK mg)(S:Stat0 st d ps)
  (l:∀(s:AJ)(o:Obj)(n:Nat),s.heap.get? T=AA o->o.data=.seq #[.int i tk] n->(∀us:List AF,us.length=ps.length->HE s (CZ m (c9 c m) (y0 st) (t3 st) (l9 st) (.ref T) e dc pm g cd ct) ⟨us,[]⟩ (ps.zip us))/\∀us:List AF,us.length+1=ps.length->HE s (CZ m (c9 c m) (y0 st) (t3 st) (l9 st) (.ref T) e dc pm g cd ct) ⟨us,[]⟩ (ps.zip (us++[.int i tk])))
  (z:Ae K AK (c9 c m)=AA AE) (q:Ae K AK c=AA (AA (.ref a))) (x:Cls K a) (k:Meth K a m fa) (hi:m="__init__"->Mk K a fa)
  (w:K.lookup fa=AA ⟨u,od,.func (CZ m (c9 c m) (y0 st) (t3 st) (l9 st) (.ref T) e dc pm g cd ct),sl⟩) (y:CQ K cd (c9 c m)=AC) (j:K.lookup T=AA ⟨t,r,.seq #[.int i tk] n,b⟩)
  (v:d.N.contains v4=AC->∃c P,cd=.ref c/\CA K c P=AC/\P∈Tbs.ps:=by exact λh=>absurd h (by decide+kernel)) (f:p=AA i:=by decide+kernel):MthOk K mg p c m d:=
 ⟨⟨a,fa,_,ps,⟨⟨st,m,⟨⟨_,_,_,_,_,_,_,_,_,_,rfl,w,y⟩,k.kp⟩,S⟩,λs us hK hl=>by
   rw[BM]at hl ⊢;exact(l s _ _ (hK _ _ j) rfl).1 us hl,v⟩,q,DG X G q,x,k,hi,λj h=>by
   rw[f]at h;cases h;exact⟨tk,λs us hK hl=>(l s _ _ (hK _ _ j) rfl).2 us (by simpa using hl)⟩⟩,z⟩
def DefAt.binds{K}{d}(D:DefAt K f d a fd ps):=D.bd
theorem DefAt.kp{K}{d}(D:DefAt K f d a fd ps):BQ K (.ref a)=AC:=by
 obtain⟨st,x,F,S⟩:=D.ex;exact F.kp
structure NiT(st:BP):Prop where
 ex:∃np ap p1 p2 cp ps1 p3 ap2 p4 ps2,t3 st=[.Expr (.Call (.Attribute (.Name "EvenError" np) "__init__" ap) [.Name "self" p1,.Name "at" p2] [] cp) ps1,.Assign [.Attribute (.Name "self" p3) "at" ap2] (.Name "at" p4) ps2]/\(ap.endLine==cp.line)=AC
 sc:FnScope ["self","at"] ["self","at"] (l9 st)
 l0:(l9 st).names.lookup ("self":Str)=AA .local
 l1:(l9 st).names.lookup ("at":Str)=AA .local
 g:(l9 st).names.lookup ("EvenError":Str)=AA .globalImplicit
structure NsA(K:AM)(mg:Str->Option AF):Prop where
 ex:∃C f fd x qual st,NcOk K C f/\Ae K AK "NoStep"=AA (AA (.ref C))/\mg "NoStep"=AA (.ref C)/\BQ K (.ref C)=AC/\FunD K x qual st f fd/\NiT st/\o8 K fd ["self","at"] []/\(∃oI,K.lookup f=AA oI/\oI.cls=.type "function")/\EvOk K mg
structure AllOk(Pr:AZ)(w:At)(K:AM)(mg:Str->Option AF)(P:i6)(G:Gs):Prop where
 fns:∀f d,P f=AA d->isM f=AG->DefOk K mg (z8 G.cls f) f d
 mts:∀f d,P f=AA d->isM f=AC->∃c m,f=c9 c m/\isM c=AG/\isM m=AG/\MthOk K mg (z8 G.cls (c9 c m)) c m d
 cls:∀f c Ca,Ae K AK c=AA (AA (.ref Ca))->f∈G.cls c->Cls K Ca/\L8 K Ca f
 blt:∀b∈V5,mg b=AE
 tabs:∀g,G.tab g≠[]->GTab Pr w K mg g (G.tab g)
 cst:∀g d,G.cst g=AA d->∃u,mg g=AA u/\Q2 K d u=AC
 isc:∀c∈G.cls "!is",∃Ca,mg c=AA (.ref Ca)/\IscOk K c Ca
 kt:Tbs.kt=(G.cls "!kt").isEmpty
 tr:G.cls "!ix"≠[]->(∃C Ce,Ae K AK "NoKind"=AA (AA (.ref C))/\mg "EvenError"=AA (.ref Ce)/\JM K (.ref C) (.ref Ce)=AA AC)/\∃C,Ae K AK "NoKind"=AA (AA (.ref C))/\mg "NoKind"=AA (.ref C)/\GC K C vB "ValueError.__new__"=AC
 ixc:∀c∈G.cls "!ix",(∃Ca,mg c=AA (.ref Ca)/\Q5 K (G.cls "!xk") c (.ref Ca))\/(c="ValueError"/\mg c=AE/\Q5 K (G.cls "!xk") c (.type "ValueError"))
 mxc:∀c∈G.cls "!mx",MxOk K mg c
 nsa:G.cls "!ns"≠[]->NsA K mg
def b18:isM (c9 c m)=AC:=by
 unfold isM c9;simp
def bz4{c' m'}(b:isM c'=AG)(a:isM m'=AG)(h:c9 c m=c9 c' m'):c=c'/\m=m':=by
 unfold isM at b a;unfold c9 at h;have h':=congrArg (λs=>s.cps.toList) h;simp only[Fc,Dl]at h';have e:=T3 (by simp_all) (by simp_all) h';exact⟨by cases c;cases c';simpa using e.1,by cases m;cases m';simpa using e.2⟩
def AllOk.mth{Pr}{K}{P}{G}(h:AllOk Pr w K mg P G){d}(e:P (c9 c m)=AA d):MthOk K mg (z8 G.cls (c9 c m)) c m d:=by
 obtain⟨i,g,f,b,a,M⟩:=h.mts _ d e b18;obtain⟨rfl,rfl⟩:=bz4 b a f;exact M
def bx1{K}{d}{ds}{vs}(r:IsDs K H ds vs):RelE K H (S7 d ds) (L2.A5 d.N vs):=ay3 r
def a59{pins}{b:L2.St}(I:L2.Inv X pins b H s)(a:∀x,X.fn x=AC)(g k)e:L2.Inv {X with fn:=g,ow:=k,xe:=e} pins b H s:=
 ⟨⟨I.ok.mod,I.ok.kind,I.ok.glob,I.ok.blt,I.ok.above,I.ok.inj,I.ok.has,λx c _=>I.ok.cab x c (.inl (a x)),I.ok.hd,I.ok.frames,I.ok.stk,I.ok.exf,I.ok.bs,I.ok.bsz,I.ok.noex,I.ok.exfs,I.ok.funs,I.ok.frf⟩,I.os,I.bare,I.base,I.loc,I.cell,I.free,
  λx c h=>.inl ((I.freeC x c h).resolve_right λz=>by simp_all),I.pin,I.hok,I.len⟩
abbrev Cxa(X:Cx):Cx:={X with fn:=λ_=>AC}
def bc0{pins}{a:L2.St}(I:L2.Inv (Cxa X) pins a H s):L2.Inv X pins a H s:=a59 I (λ_=>rfl) X.fn X.ow X.xe
abbrev bk5(X:Cx)(l:List BP)(t:TS):Prop:=∀(pins:List (AI×Obj))(s:AJ)(σ:L2.St)(H:Hp)(D:Ends),Inv (Cxa X) pins σ H s->t D σ H->AQ (model X.prog X.w) X.A (execs l X.env) (SP X pins D) X.xe s
def c79 Z(c:∀b(a)N(l),mSs b a N l=AC->N.contains v4=AG->Tbs.mt b a N (.stmts l))(d:XOk Z X)(f:HF X)(e:FrS X Z.X)(l)xs(h:mSs l X.env.scope X.N xs=AC):bk5 X xs (upS X.K (i5 Z l)):=λpins s σ H D I=>U0 Z c l X xs d f e h pins s σ H D (bc0 I)
abbrev cxF(bX:Bool)(P:AZ)(w:At)(K:AM)(mg:Str->Option AF)(base:Au)(N:List Str)(qual:Str)(scope:BE)(f:AI)(cd:AF)(A:BG)(outer:List Env)(s:AJ)(H:Hp):Cx:=
 {ai4 (CXk P w K bX) P w K mg base N qual scope f cd A outer s H E0 with fn:=λy=>!(N.contains (z4 y)),ow:=λ_=>AC}
def bf7{K}{scope}{f}{A}{outer}:FrX (cxF bX P w K mg base N qual scope f cd A outer s H) "NoKind" z5 bX:=⟨rfl,rfl,rfl,rfl⟩
def bf0{b}(F:FrX X "NoKind" z5 b):FrS X b:=⟨F.stk,F.fr,F.pass,λe=>e▸F⟩
def bh3{K}{k}{f}{x}{sp:Sp}(F:FunD K x qual st f fd)(S:FnScope N ps (l9 st))
  (j:∀vs H Q E,sp vs H Q E->vs.length=ps.length)
  (h:∀(A:BG)(a:List Env)(s:AJ)(H:Hp)(vs:List V)(Q:VK)(E:XK),Room k (A.deeper (HV qual (l9 st) s.heap.objs.size f fd.code))->sp vs H Q E ->
   ∃t,bk5 (cxF bX P w K mg base N qual (l9 st) f fd.code A a s H) (t3 st) t/\t {nx:=λ_ d=>Q .non d,rt:=Q} (L2.A5 N vs) H) :
  FnOk P w K mg base (CXk P w K bX) (k+1) f fd ps sp:=by
 obtain⟨oc,Z,dV,kV,T,Y,an,i,ct,D,rfl,G,p⟩:=F.ex;refine⟨j,λA a s H args us vs Q E hr e0 hb r hsp=>?_⟩;have R:=j _ _ _ _ hsp;have B:=e0.mod.kin.keeps λb o e=>(e0.bs b o e).1;have m:=e0.mod.nolimit.keeps λb o e=>(e0.bs b o e).1;have g:∀y∈ps.zip us,(l9 st).names.lookup y.1=AA .local\/((l9 st).names.lookup y.1=AA .cell/\((LA (s.heap.objs.size+1) (l9 st).names []).lookup y.1).isSome=AC):=λ⟨n,v⟩L=>by
  rcases S.par n (Gv L).1 with q|q
  ·exact .inl q
  ·exact .inr ⟨q,KF _ _ _ (.inl q)⟩
 refine codeAny_call_function hr.depth (B _ _ G) rfl S.co S.gen rfl (W.codeRec_of B p) (hb _ _ _ _ ?_);refine wpAny_newFunctionEnv_cells S.kind g λenv he s1 x=>?_;subst he;refine⟨m.keeps x.toInCall.keep,codeAny_func ?_⟩;obtain⟨t,M,O⟩:=h A a s H vs Q E (hr.deeper _) hsp;have X:Inv (ai4 (CXk P w K bX) P w K mg base N qual (l9 st) f i A a s H E0) [] (L2.A5 N vs) H s1:=bw5 S hr.hd e0 R r x;have I:Inv (Cxa (cxF bX P w K mg base N qual (l9 st) f i A a s H)) [] (L2.A5 N vs) H s1:=a59 X (λ_=>rfl) _ _ _;refine BJ (M [] s1 (L2.A5 N vs) H _ I O) (λfl s' hs=>?_) λe s' hs=>hs;have fin:∀{c}{d}{v}{u},Inv (cxF bX P w K mg base N qual (l9 st) f i A a s H) [] c d s'->i7 v u->Q v d->CE a P w H s Q u s':=
  λ{c d v u}J l q=>⟨v,d,J.os,J.bare,J.base,J.hok,l,q⟩
 cases fl with
 |ret u=>
  obtain⟨v,c,d,J,l,q⟩:=hs;exact fin J l q
 |next=>
  obtain⟨c,d,J,q⟩:=hs;exact fin (v:=V.non) J rfl q
 |brk=>
  obtain⟨_,_,_,q⟩:=hs;exact AU q
 |cont=>
  obtain⟨_,_,_,q⟩:=hs;exact AU q
def b56{K:AM}{C f:AI}{x:Str}(c:NcOk K C f)(F:FunD K x qual st f fd)(T:NiT st)(E:EvOk K mg):FnOk P w K mg base (CXk P w K bX) 1 f fd ["self","at"] (at8 C):=by
 obtain⟨np,ap,p1,p2,cp,k,r,m,p,j,u,a⟩:=T.ex;refine bh3 F T.sc (λvs H Q E h=>?_) (λA outer s H vs Q E0 hr h=>?_)
 ·obtain⟨e,i,rfl,_⟩:=h;rfl
 ·obtain⟨e,i,rfl,v,t⟩:=h;rw[u];have o:NvOk (cxF bX P w K mg base ["self","at"] qual (l9 st) f fd.code A outer s H) 0 "self":=⟨rfl,.inl T.l0,∅,∅⟩;have n:NvOk (cxF bX P w K mg base ["self","at"] qual (l9 st) f fd.code A outer s H) 1 "at":=⟨rfl,.inl T.l1,∅,∅⟩;have d:=bb8 (pos:=k) (ck4 (X:=cxF bX P w K mg base ["self","at"] qual (l9 st) f fd.code A outer s H) (np:=np) (ap:=ap) (p1:=p1) (p2:=p2) (cp:=cp) E c T.g o n (mcF rfl (show 2<29 by decide)) a) rfl;have l:=ct9 (X:=cxF bX P w K mg base ["self","at"] qual (l9 st) f fd.code A outer s H) (pos:=j) (p1:=r) (p2:=p) (ap:=m) c o n;refine⟨_,λpins s σ H D I q=>a69 d (a98 l) pins s σ H D (bc0 I) q,e,i,rfl,rfl,v,?_⟩;refine⟨e,i,rfl,rfl,o0,λdx od tk hd hl=>?_⟩;have b:dx≠e:=λz=>by rw[z,o0]at hd;cases hd
  refine t dx od tk _ (by rw[f9 b]at hd;exact hd) hl (by rw[f9 b,o0]) o0 λb d l=>by rw[f9 d,f9 l,f9 d]
section
variable {Pr:AZ} {K:AM} {P:i6} {G:Gs}
structure LvOk(Pr:AZ)(w:At)(K:AM)(mg:Str->Option AF)(base:Au)(P:i6)(G:Gs)(n:Nat):Prop where
 fn:∀bX m,m<=n->∀(f:Str)(d:Def),P f=AA d->∀(a:AI)(fd:BZ)(ps:List Str),DefAt K f d a fd ps->FnOk Pr w K mg base (CXk Pr w K bX) m a fd ps (t5 K (J0 bX P G m f))
 clo:∀bX np N b cs fa fd ps,CloF fd np N ps b->FnOk Pr w K mg base (CXk Pr w K bX) n fa fd ps (X0 K fa fd np N cs (aa9 bX P G n np N b cs))
def LvOk.ph(L:LvOk Pr w K mg base P G n)bX{d}(b:P f=AA d)(D:DefAt K f d a fd ps):FnOk Pr w K mg base (CXk Pr w K bX) n a fd ps (t5 K (pF bX P G n f)):=by
 cases bX with
 |false=>exact L.fn AG n (AX _) f d b a fd ps D
 |true=>exact L2.FnOk.imp (Ek.FnOk.or (L.fn AC n (AX _) f d b a fd ps D) (Ek.FnOk.calm (L.fn AG n (AX _) f d b a fd ps D))) λvs H Q E=>cd6
def LvOk.phC(L:LvOk Pr w K mg base P G n)bX{np}{b}{cs}(a:CloF fd np N ps b):FnOk Pr w K mg base (CXk Pr w K bX) n fa fd ps (X0 K fa fd np N cs (pC bX P G n np N b cs)):=by
 cases bX with
 |false=>exact L.clo AG np N b cs fa fd ps a
 |true=>exact L2.FnOk.imp (Ek.FnOk.or (L.clo AC np N b cs fa fd ps a) (Ek.FnOk.calm (L.clo AG np N b cs fa fd ps a))) λvs H Q E⟨us,ds,st,Qd,h1,h2,h3,h4,h5,h6⟩=>h5.elim (λq=>.inl ⟨us,ds,st,Qd,h1,h2,h3,h4,q,h6⟩) λq=>.inr ⟨us,ds,st,Qd,h1,h2,h3,h4,q,h6⟩
def bi1(k:AllOk Pr w K mg P G)(L:LvOk Pr w K mg base P G n)(y:X.prog=Pr)(v:X.w=w)(a:X.K=K)(j:X.mg=mg)(H:X.base=base)(u:Room n X.A)(calm:X.calm=AC)(psx:B2 (CXz X bX) X E0)(nd:X.N.Nodup)
  (lam:X.N.contains v4=AC->LamOk X/\∀x,X.N.contains (z4 x)=AC->X.fn x=AG/\X.ow x=AC)
  (mt:∀b Z N fb,mFB b Z N fb->Tbs.mt b Z N fb):XOk (Zl bX P G n) X where
 calm:=calm
 psx:=psx
 tf:=λg hi hg=>by
  obtain⟨r,d⟩:=BC.mp hg;obtain⟨p,h,o,l,t,J,_⟩:=(k.fns g r d hi).ex;refine⟨n,p,h,o,?_,u,by rw[j];exact t,by rw[a];exact l.kp,by rw[a];exact l.binds⟩;rw[CXz,y,v,a,j,H];exact L.fn AC n (AX _) g r d p h o l
 tr:=λz=>by obtain⟨b,c⟩:=k.tr z;exact⟨by rw[a,j];exact b,by rw[a,j];exact c⟩
 ixc:=by rw[a,j];exact k.ixc
 mxc:=by rw[a,j];exact k.mxc
 nsx:=λz C hC=>by
  obtain⟨C',f,fd,x,q,st,c,R,_⟩:=(k.nsa z).ex;rw[a,R]at hC;cases hC;rw[a];exact c.toNsX
 ncf:=λz hg=>by
  obtain⟨C',f,fd,x,q,st,c,R,hm,hk,F,T,V,ho,E⟩:=(k.nsa z).ex;simp only[BD]at hg;refine⟨C',f,fd,1,by rw[a];exact c,by rw[a];exact R,by rw[j];exact hm,by rw[a];exact hk,?_,?_,by rw[a];exact V,by rw[a];exact ho⟩
  ·rw[CXz,y,v,a,j,H];exact b56 c F T E
  ·cases n with
   |zero=>exact absurd hg.1 AH
   |succ m=>cases m with
    |zero=>exact absurd hg.1 AH
    |succ m=>exact u.mono ⋯
 units:=by have:=u.un;lia
 nd:=nd
 blt:=by rw[j];exact k.blt
 fns:=λg hi hg=>by
  obtain⟨r,d⟩:=BC.mp hg;obtain⟨p,h,o,l,t,J,_⟩:=(k.fns g r d hi).ex;refine⟨n,p,h,o,?_,u,by rw[j];exact t,by rw[a];exact l.kp,by rw[a];exact l.binds,by rw[a];exact J⟩;rw[CXz,y,v,a,j,H];exact L.ph bX d l
 fnd:=λg hi hg hd=>by
  obtain⟨r,d⟩:=BC.mp hg;obtain⟨p,h,o,l,t,J,V⟩:=(k.fns g r d hi).ex;refine⟨n,p,h,o,?_,u,by rw[j];exact t,by rw[a];exact l.kp,by rw[a];exact V hd⟩;rw[CXz,y,v,a,j,H];exact L.ph bX d l
 nom:=λg ga hg R=>by
  obtain⟨r,d⟩:=BC.mp hg;cases e:isM g with
  |false=>rfl
  |true=>
   obtain⟨c,m,rfl,_,_,M⟩:=k.mts g r d e;rw[a,M.nom]at R;cases R
 cls:=by rw[a];exact k.cls
 mth:=λm c Ca hc hg=>by
  obtain⟨r,d⟩:=BC.mp hg;obtain⟨Q,p,h,o,l,s,O,Y,W,I1,_⟩:=(k.mth d).ex;rw[a,s]at hc;cases hc;refine⟨n,p,h,o,by rw[a];exact Y,by rw[a];exact W,?_,u,by rw[a];exact l.binds⟩;rw[CXz,y,v,a,j,H];exact L.ph bX d l
 mthd:=λm c Ca i hc hg hi=>by
  obtain⟨r,d⟩:=BC.mp hg;obtain⟨Q,p,h,o,l,s,O,Y,W,I1,D1⟩:=(k.mth d).ex;rw[a,s]at hc;cases hc;obtain⟨tk,V⟩:=D1 i hi;refine⟨n,p,h,o,tk,by rw[a];exact Y,by rw[a];exact W,?_,u,by rw[a];exact V⟩;rw[CXz,y,v,a,j,H];exact L.ph bX d l
 mks:=λc hg=>by
  simp only[BD]at hg;obtain⟨r,d⟩:=BC.mp hg.2;obtain⟨Q,p,h,o,l,s,O,Y,W,I1,_⟩:=(k.mth d).ex;cases n with
  |zero=>exact absurd hg.1 AH
  |succ m=>
   refine⟨Q,m,p,h,o,by rw[a];exact s,by rw[a];exact I1 rfl,?_,u,by rw[j];exact O,by rw[a];exact l.binds⟩;rw[CXz,y,v,a,j,H];exact Ek.FnOk.calm (L.fn AG m (Hr _) _ r d p h o l)
 tabs:=by rw[y,v,a,j];exact k.tabs
 cst:=by rw[a,j];exact k.cst
 isc:=by rw[a,j];exact k.isc
 kt:=k.kt
 lam:=lam
 mtE:=λe Z N x h1 h2=>mt _ _ _ _ ⟨h2,e,rfl,h1⟩
 clo:=λnp N b cs fa fd ps cf=>⟨n,by rw[CXz,y,v,a,j,H];exact L.phC bX cf,u⟩
def az7{ds:List D}{st}{Q}(h:J0 bX P G (n+1) f ds st Q):∃fd,P f=AA fd/\ds.length=fd.np/\i5 (Zl bX P G n) fd.body {nx:=λ_ st'=>∃a,Sub a st'/\Q .non a,rt:=λd st'=>∃a,Sub a st'/\Q d a} (S7 fd ds) st:=by cases bX<;>exact h
def bq1{np}{b}{c:List D}:aa9 bX P G (n+1) np N b c=λds st Q=>ds.length=np/\i5 (Zl bX P G n) b {nx:=λ_ st'=>∃a,Sub a st'/\Q .non a,rt:=λd st'=>∃a,Sub a st'/\Q d a} (G5 N ds c) st:=by cases bX<;>rfl
def b73:LvOk Pr w K mg base P G 0:=by
 refine⟨λbX m hm f d hf a fd ps D=>?_,λbX np N b cs fa fd ps cf=>?_⟩
 ·obtain rfl:m=0:=by lia
  have c:∀vs H Q E,¬t5 K (J0 bX P G 0 f) vs H Q E:=λvs H Q E h=>by
   obtain⟨ds,i,g,_,_,h,_⟩:=h;cases bX<;>exact h
  exact⟨λvs H Q E h=>absurd h (c vs H Q E),λA outer s H args us vs Q E _ _ _ _ h=>absurd h (c vs H Q E)⟩
 ·have c:∀vs H Q E,¬X0 K fa fd np N cs (aa9 bX P G 0 np N b cs) vs H Q E:=λvs H Q E h=>by
   obtain⟨e,ds,st,g,_,_,_,_,h,_⟩:=h;cases bX<;>exact h
  exact⟨λvs H Q E h=>absurd h (c vs H Q E),λA outer s H args us vs Q E _ _ _ _ h=>absurd h (c vs H Q E)⟩
def b85(hA:AllOk Pr w K mg P G)(V:X3 mg base)(W:K.In base)(t:∀b i N o,mFB b i N o↔Tbs.mt b i N o)(L:LvOk Pr w K mg base P G n):LvOk Pr w K mg base P G (n+1):=by
 have p:∀(b:Ss)(i:BE)(N:List Str)(l:List BP),mSs b i N l=AC->N.contains v4=AG->Tbs.mt b i N (.stmts l):=λb i N l h1 h2=>(t _ _ _ _).mp ⟨h2,h1⟩;refine⟨λbX m hm f d hf a fd ps D=>?_,λbX np N b cs fa fd ps cf=>?_⟩
 ·by_cases U:m<=n
  ·exact L.fn bX m U f d hf a fd ps D
  obtain rfl:m=n+1:=by lia
  obtain⟨st,x,F,S⟩:=D.ex;refine bh3 F S.sc (λvs H Q E h=>?_) (λA outer s H vs Q E hr h=>?_)
  ·obtain⟨ds,Y,Qd,M,_,R,_⟩:=h;obtain⟨d',g,hl,_⟩:=az7 R;rw[hf]at g;cases g;rw[<-M.len,hl,S.np]
  ·obtain⟨ds,Y,Qd,M,rs,R,hq⟩:=h;obtain⟨d',g,hl,B⟩:=az7 R;rw[hf]at g;cases g;have C:XOk (Zl bX P G n) (cxF bX Pr w K mg base d.N f (l9 st) a fd.code A outer s H):=bi1 hA L rfl rfl rfl rfl rfl hr rfl bf7.passes S.sc.nd (λhl=>by
    obtain⟨c,P',e1,e2,e3⟩:=D.lam hl;refine⟨⟨⟨c,P',e1,Lh W e2,e3⟩,V⟩,λx hx=>⟨?_,rfl⟩⟩;show(!(d.N.contains (z4 x)))=AG;have O:d.N.contains (z4 x)=AC:=hx;rw[O];rfl) λb i N o=>(t b i N o).mp
   have X:HF (cxF bX Pr w K mg base d.N f (l9 st) a fd.code A outer s H):=λy _ hy=>.inl (by
    show(!(d.N.contains (z4 y)))=AC;have k:d.N.contains (z4 y)=AG:=hy;rw[k];rfl)
   refine⟨_,c79 _ p C X (bf0 bf7) d.body _ S.body,S7 d ds,Y,_,bx1 M,rs,B,λenv σ H' st' ev hE hS q=>?_,λenv σ H' st' ev hE hS q=>q.elim,λenv σ H' st' ev hE hS q=>q.elim,λv e H' st' ev is' rs' q=>?_⟩
   ·obtain⟨J,sub,q⟩:=q;exact hq _ .non H' J (ev.drop sub) .non (hS.sub sub) q
   ·obtain⟨J,sub,q⟩:=q;exact hq v e H' J (ev.drop sub) is' (rs'.sub sub) q
 ·rw[bq1];refine co9 (bX:=bX) (Z:=Zl bX P G n) cf λq A outer s H hr=>?_;obtain⟨T,j⟩:=(t _ _ _ _).mpr cf.mt;have C:XOk (Zl bX P G n) (cxC bX Pr w K mg base N fd.scope fd.closure q fa fd.code A outer s H):=bi1 hA L rfl rfl rfl rfl rfl hr rfl bh5.passes cf.sc.nd (λhl=>by
   have r:N.contains v4=AC:=hl;rw[T]at r;cases r) λb i N o=>(t b i N o).mp
  have X:HF (cxC bX Pr w K mg base N fd.scope fd.closure q fa fd.code A outer s H):=λy hy _=>by
   have k:fd.scope.names.lookup y=AA .local\/fd.scope.names.lookup y=AA .cell:=hy
   rcases k with z|z
   ·exact .inr z
   ·exact absurd rfl (cf.sc.nocell _ (PySem.mem_of_lookup z))
  cases B:fd.body with
  |stmts l=>rw[B]at j;exact U0 _ p b _ l C X (bf0 bh5) j
  |expr x=>
   rw[B]at j;obtain⟨e,rfl,he⟩:=j;exact⟨e,rfl,(f8 _ e _ x C he).v⟩
theorem bi3(f:AllOk Pr w K mg P G)(a:X3 mg base)(c:K.In base)(e:∀b d N g,mFB b d N g↔Tbs.mt b d N g):∀n,LvOk Pr w K mg base P G n
 |0=>b73
 |n+1=>b85 f a c e (bi3 f a c e n)
end
abbrev st0(a:AI)(ns:List Int):Sto:=λb=>if b=a then AA (.fro (ns.map D.int))else AE
theorem a08{K}:∀ns:List Int,IsDs K H (ns.map D.int) (ns.map V.int)
 |[]=>.nil
 |n::r=>.cons (.int n) (a08 r)
abbrev V9(K:AM):Bool:=K.all λp=>!(p.2.cls==.type "list")
def ay4{K}{o}(h:V9 K=AC)(e:K.lookup a=AA o):o.cls≠.type "list":=by
 unfold V9 at h;rw[DH]at h;have g:(a,o)∈K:=by
  induction K with
  |nil=>cases e
  |cons p r f=>
   obtain⟨b,x⟩:=p;rw[EI]at e;cases q:a==b with
   |true=>simp_all
   |false=>rw[q]at e;exact Am _ (f (λp hp=>h p (Am _ hp)) e)
 have:=h _ g;simpa using this
end
def bt7{P:AZ}{w:At}{K:AM}{l Q:Str->Option AF}{k:Nat}{fa a:AI}{fd:BZ}{x:Str}{sp:Sp}{c:AJ}{vs:List AF}{ns:List Int}{ts:List AI}
  (KX:K.In c.heap) (y:c.heap.Ns AK l) (i:c.heap.Ns CL Q) (U:∀x:Str,x≠"__name__"->Q x=BF x) (A:c.heap.NoLimit) (T:X3 l c.heap) (hg:c.gens=#[])
  (B:c.heap.get? a=AA {cls:=.type "list",data:=.seq vs.toArray}) (hi:HH vs ns) (hl:ns.length<=sizeLine) (hr:Room k Hy)
  (G:∀P∈ts,c.heap.get? P=AA (Hn #[])/\isCodeTable c.heap P) (W:∀P∈ts,K.lookup P=AE) (X:K.lookup a=AE)
  (F:∀g:Au,K.In g->g.Ns AK l->X3 l g->FnOk P w K l g CX0 k fa fd [x] sp) (s:HE c fd ⟨[.ref a],[]⟩ [(x,.ref a)])
  (R:∀H:Hp,(∀P∈ts,H P=AA (.tbl #[]))->SqL K H a (ns.map V.int)->sp [.ref a] H (λv _=>v=.bl AC) λ_ _ _=>False) :
  Dz (model P w) Hy (.call (.ref fa) ⟨[.ref a],[]⟩) (λr s'=>r=.ok (.ret (.bool AC))/\OldK c.heap s'.heap/\s'.os=c.os/\ES s'.gens) c:=by
 have rv:=a06 hi;have O:a∉ts:=λz=>by
  have:=(G a z).1;rw[B]at this;cases this
 let H:Hp:=λb=>if b=a then AA (.frz {cls:=.type "list",data:=.seq vs.toArray} (.lst (ns.map V.int)))else if b∈ts then AA (.tbl #[])else AE
 have M:H a=AA (.frz {cls:=.type "list",data:=.seq vs.toArray} (.lst (ns.map V.int))):=if_pos rfl;have Ht:∀P∈ts,H P=AA (.tbl #[]):=λP hP=>by
  have ne:P≠a:=λz=>O (z▸hP);show(if P=a then _ else if P∈ts then _ else _)=_;rw[if_neg ne,if_pos hP]
 have L:∀b u,H b=AA u->b=a\/b∈ts:=λb u e=>by
  by_cases J:b=a
  ·exact .inl J
  ·by_cases I:b∈ts
   ·exact .inr I
   ·have e':(if b=a then AA (HO.frz {cls:=.type "list",data:=.seq vs.toArray} (.lst (ns.map V.int)))else if b∈ts then AA (.tbl #[])else AE)=AA u:=e;rw[if_neg J,if_neg I]at e';cases e'
 have S:HOk P w H c.heap:=λb u e=>by
  rcases L b u e with rfl|i
  ·rw[M]at e;cases e;exact⟨B,by rw[AV];exact hl,vs,_,rv,B⟩
  ·rw[Ht b i]at e;cases e;exact(G b i).1
 have C7:∀{b:AI}{o:Obj},c.heap.get? b=AA o->H b=AE->(J2 c.heap H).get? b=AA o:=λe n=>a74 e n;have f:∀b o,c.heap.get? b=AA o->(∀N n,o.data≠.seq N n)->(∀N,o.data≠.fields N)->H b=AE:=λb o e n1 n2=>by
  cases q:H b with
  |none=>rfl
  |some u=>
   rcases L b u q with rfl|i
   ·rw[B]at e;cases e;exact absurd rfl (n1 _ _)
   ·rw[(G b i).1]at e;cases e;exact absurd rfl (n2 _)
 have j:∀{b:AI}{m:Str->Option AF},c.heap.Ns b m->(J2 c.heap H).Ns b m:=λ{b m}⟨o,es,ep,e,d,r⟩=>⟨o,es,ep,C7 e (f b o e (by rw[d];exact λ_ _=>nofun) (by rw[d];exact λ_=>nofun)),d,r⟩;have C:K.In (J2 c.heap H):=λb o e=>C7 (KX b o e) (by
  cases q:H b with
  |none=>rfl
  |some u=>
   rcases L b u q with rfl|i
   ·rw[X]at e;cases e
   ·rw[W b i]at e;cases e)
 have Y:X3 l (J2 c.heap H):=by
  obtain⟨bm,ob,b1,b2,b3,b4,b5,b6⟩:=T;exact⟨bm,ob,b1,b2,C7 b3 (f bm ob b3 (by rw[b6];exact λ_ _=>nofun) (by rw[b6];exact λ_=>nofun)),b4,b5,b6⟩
 have hM:Mod K l (J2 c.heap H):=⟨C,j y,⟨Q,j i,U⟩,let⟨mc,J,I⟩:=A;⟨mc,j J,I⟩⟩;have e0:Env0 P w K l (J2 c.heap H) Hy [] c H:=⟨rfl,hM,λb o e=>bd8 e,Ky (bu0 _ _),trivial,λb i=>absurd (show b∈([]:List AI) from i) ∎,S,.of_eq hg⟩;refine De ((F _ C (j y) Y).run Hy [] c H ⟨[.ref a],[]⟩ [.ref a] [.ref a] _ _ hr e0 s (.cons rfl .nil) (R H Ht (.inl (.inr ⟨_,M⟩)))) λr s' h=>?_;cases r with
 |error e=>exact AU h
 |ok fl=>
  cases fl with
  |next=>exact AU h
  |brk=>exact AU h
  |cont=>exact AU h
  |ret u=>
   obtain⟨v,H',os,D,E,p,r',q⟩:=h;have q':v=.bl AC:=q;subst q';obtain rfl:u=HA AC:=r';refine⟨rfl,⟨λb o e=>?_,λb o e=>E.there b o e ∎⟩,os,D⟩;cases q:H b with
   |none=>exact .inl (E.keep b o e q (by intro z;exact absurd (show b∈([]:List AI) from z) ∎) ∎)
   |some u=>
    rcases L b u q with rfl|i
    ·rw[M]at q;cases q;have z2:=E.frzs b _ _ M;obtain⟨e2,_⟩:=p b _ z2;rw[B]at e;cases e;exact .inl e2
    ·obtain⟨t1,t2⟩:=G b i;rw[t1]at e;cases e;obtain⟨t,z⟩:=E.tbls b _ (Ht b i);have e2:=p b _ z;exact .inr (.inl ⟨t2,rfl,#[],t,rfl,e2⟩)
def bn4 [Tbs]{K}{h}{a}{o}(X:K.In h)(c:V9 K=AC)(e:h.get? a=AA o)(d:o.cls=.type "list"):K.lookup a=AE:=by
 cases q:K.lookup a with
 |none=>rfl
 |some b=>
  have:=X a b q;rw[e]at this;cases this;exact absurd d (ay4 c q)
def b91{l:W.OpenLaw}{q:AZ}{i:List Str}{XP:(Str->Option AF)->Au->Prop}{M:At->Au->Prop}{d:DefRec}{K:Params->AM}{P:i6}{G:Gs}{n:Nat}{x:Str}{dl:Def}{ts:List AI}
  (S:l.most=AA 63) (B:d.params.defaults=[]) (A:d.name="law") (R:Room n Hy) (V:∀(w:At)(h:Au),M w h->(K w.params).In h/\∀P∈ts,h.get? P=AA (Hn #[])) (J:P "law"=AA dl)
  (v:∀st t,Stat0 st dl t->t=[x])
  (F:∀(w:At)(u:Str->Option AF)(h:Au),(K w.params).In h->h.Ns AK u->(letI:Tbs:=⟨ts,mFB,(G.cls "!kt").isEmpty⟩;AllOk l.prog w (K w.params) u P G)/\V9 (K w.params)=AC/\JO (K w.params)=AC/\∀P∈ts,∃c,CA (K w.params) c P=AC)
  (s:∀(a:AI)(ns:List Int),ns.length<=63->sem P G n "law" [.ref a] (st0 a ns) λd _=>d=.bl AC) :
  W.WalkO q i XP M l.row.toRowW d [] (λf vs=>PySem.call f vs):=by
 letI:Tbs:=⟨ts,mFB,(G.cls "!kt").isEmpty⟩
 refine Att.attach_call S B λw s₀ s₁ u mb fa o pm cd doc a vs ns GG Y ho hd hcd hmg hobj hints hlen hg=>?_;obtain⟨p,j⟩:=V w _ Y;obtain⟨L,r,k,X⟩:=F w u _ p GG.T.g;obtain⟨ad,fd,t,I,mf,_,_⟩:=(L.fns "law" dl J (by decide+kernel)).ex;obtain⟨st,y,Ff,Sf⟩:=I.ex;have e:=v st t Sf;subst e;rw[A]at hmg;have Z:fa=ad:=by lia
 subst Z;have H:(K w.params).lookup a=AE:=bn4 p r hobj rfl;refine bt7 (ts:=ts) (sp:=t5 (K w.params) (sem P G n "law")) p GG.T.g GG.T.b GG.T.builtins GG.T.nolimit GG.T.bmain hg hobj hints (Ax hlen ∅) R (λP hP=>⟨j P hP,?_⟩) (λP hP=>?_) H (λbase D hbg hbm=>Ek.FnOk.calm ((bi3 L hbm D (λ_ _ _ _=>Iff.rfl) n).fn AG n (AX _) "law" dl J fa fd [x] I)) (I.bd _ [.ref a] p rfl) (λH hH E=>?_)
 ·obtain⟨c,C⟩:=X P hP;exact((Lh p C).tab (j P hP)).isCodeTable
 ·cases qq:(K w.params).lookup P with
  |none=>rfl
  |some O=>
   have z:=p P O qq;rw[j P hP]at z;cases z;unfold JO at k;rw[DH]at k;exact absurd (k _ (W.mem_of_lookupK qq)) AH
 ·refine⟨[.ref a],st0 a ns,_,.cons (.ref a) .nil,⟨λb o e=>?_,λP hP=>⟨#[],hH P hP,trivial,λpos cv z=>by cases z⟩⟩,s a ns hlen,λv d' H' st' ev is rs q=>?_⟩
  ·unfold st0 at e
   split at e
   ·rename_i D;cases e;subst D
    rcases E with E|⟨ob,Q,m,U,C,_⟩
    ·exact⟨_,E,a08 ns⟩
    ·exact absurd C (ay4 r U)
   ·cases e
  ·have N:d'=.bl AC:=q;subst N;cases is;rfl
abbrev cb0(P:AI)(o:Obj):Bool:=match o with
 |⟨.type "code",_,.fields vs,_⟩=>(match(vs[11]?:Option AF)with|some (.ref P')=>P'==P|_=>AG)
 |_=>AG
abbrev at5(K:AM)(ts:List AI):Bool:=ts.all λP=>match K.find? λp=>cb0 P p.2 with
 |some p=>CA K p.1 P
 |none=>AG
def ce2{K}{ts}(h:at5 K ts=AC):∀P∈ts,∃c,CA K c P=AC:=λP hP=>by
 unfold at5 at h;rw[DH]at h;have:=h P hP
 split at this
 ·exact⟨_,this⟩
 ·cases this
abbrev ah5(K:AM)(cd:AF):Option (AI×AI):=match cd with
 |.ref c=>(match K.lookup c with
  |some ⟨_,_,.fields vs,_⟩=>(match(vs[11]?:Option AF)with|some (.ref P)=>AA (c,P)|_=>AE)
  |_=>AE)
 |_=>AE
def bg7{K}{cd}{c P}{ts:List AI}(h:ah5 K cd=AA (c,P))(a:CA K c P=AC)(b:ts.contains P=AC):∃c P,cd=.ref c/\CA K c P=AC/\P∈ts:=by
 unfold ah5 at h
 split at h
 ·split at h
  ·split at h
   ·cases h;exact⟨_,_,rfl,a,by simp_all⟩
   ·cases h
  ·cases h
 ·cases h
end Ek
namespace Ek
open PySem L2
section
def al5 s:Ab s=⟨(s.toList.map GK).toArray⟩:=by
 unfold Ab;rw[cpsOfBytes_string]
def bp1:∀(x y:Char),x.toNat=y.toNat->x=y:=λx y h=>Char.ext (UInt32.toNat_inj.mp h)
theorem ay5:∀(a b:List Char),a.map GK=b.map GK->a=b
 |[],[],_=>rfl
 |[],_::_,h=>by simp at h
 |_::_,[],h=>by simp at h
 |x::a,y::b,h=>by
  simp at h;rw[bp1 x y h.1,ay5 a b h.2]
def u6{a b}:(Ab a=Ab b)=(a=b):=by
 refine propext ⟨λh=>?_,λh=>by rw[h]⟩;rw[al5,al5]at h;have h':=by simpa using h
 exact String.toList_inj.mp (ay5 _ _ h')
def E4 s:(D.str (Ab s)).pure=AC:=by
 show Jw (Ab s)=AC;unfold Jw;rw[al5];simp;intro c _;have h:=c.valid;show c.val.toNat<1114112;lia
variable{L:List AI}{st st':Sto}{a b c e v:E}{p:AI}{o u:Ob}{Q:DK}{P:i6}{G:Gs}{n np i:Nat}{f g:Str}{fd:Def}{ds cs:List D}{N:List Str}{bX:Bool}{es:Es}
abbrev Kp(L:List AI)(st st':Sto):Prop:=∀b o,b∉L->st b=AA o->st' b=AA o
def Kp.refl:Kp L st st:=λ_ _ _ h=>h
def Kp.trans{a b c}(x:Kp L a b)(y:Kp L b c):Kp L a c:=λd o n h=>y d o n (x d o n h)
def Kp.more{M}{a b}(x:Kp L a b)(s:∀d∈L,d∈M):Kp M a b:=λd o n=>x d o λz=>n (s d z)
def Kp.new(x:Kp L st st')(h:st' p=AE):Kp L st (b0 st' p o):=λd u n e=>by
 have a:=x d u n e;rwa[B6 λz=>by grind]
def Kp.put(x:Kp L st st')(h:p∈L):Kp L st (b0 st' p o):=λd u n e=>by
 rw[B6 λz=>n (by rwa[z])];exact x d u n e
def Kp.at'{b}(x:Kp L st st')h(n):=x b o n h
def j8{a}(h:st a=AA o)(b:st p=AE):b0 st p u a=AA o:=by
 rwa[B6 λz=>by grind]
def l5{a}(h:st a=AA o)(b:st p=AE):a≠p:=λz=>by grind
def f6{a}(h:st a=AA o)(n:a≠p):b0 st p u a=AA o:=B6 n▸h
def R8{a}:b0 (b0 st a o) a u=b0 st a u:=by
 funext b;unfold b0;split<;>rfl
abbrev o5(st:Sto)(a:AI):Prop:=∃l:List Int,st a=AA (.lst (l.map .int))
def o5.keep{b}(h:o5 st b)(x:Kp L st st')(n:b∉L):o5 st' b:=let⟨l,e⟩:=h;⟨l,x.at' e n⟩
def o5.new{b}(h:o5 st b)(a:st p=AE):o5 (b0 st p u) b:=let⟨l,e⟩:=h;⟨l,j8 e a⟩
def o5.ne{b}(h:o5 st b)(a:st p=AE):=let⟨l,e⟩:=h;l5 e a
abbrev j9(Q:DK):DEnds:={nx:=λ_ st'=>∃s2,Sub s2 st'/\Q .non s2,rt:=λd st'=>∃s2,Sub s2 st'/\Q d s2}
def c0{d:D}(h:Q d st):(j9 Q).rt d st:=⟨st,Sub.refl st,h⟩
def ba1{env}(h:Q .non st):(j9 Q).nx env st:=⟨st,Sub.refl st,h⟩
@[reducible]noncomputable def Zg(P:i6)(G:Gs)(n:Nat):Sg:=⟨λf=>(P f).isSome,sem P G n,G.tab,G.cls,(y6 P G n).mf,λf=>(y6 P G n).po&&(P f).isSome,G0 P G n,G.cst,AG,A6 P G n⟩
@[reducible]noncomputable def Zr(P:i6)(G:Gs)(n:Nat):Sg:=⟨λf=>(P f).isSome,orF (A6 P G n) (sem P G n),G.tab,G.cls,(y6 P G n).mf,λf=>(y6 P G n).po&&(P f).isSome,orC (U2 P G n) (G0 P G n),G.cst,AC,A6 P G n⟩
def J7(c:P f=AA fd)(a:ds.length=fd.np)env(b:S7 fd ds=env)
  (h:i5 (Zr P G n) fd.body (j9 Q) env st):A6 P G (n+1) f ds st Q:=⟨fd,c,a,by rwa[b]⟩
def b07{b}(a:ds.length=np)env(c:G5 N ds cs=env)
  (h:i5 (Zr P G n) b (j9 Q) env st):U2 P G (n+1) np N b cs ds st Q:=⟨a,c▸h⟩
def i8(c:P f=AA fd)(a:ds.length=fd.np)env(b:S7 fd ds=env)
  (h:i5 (Zg P G n) fd.body (j9 Q) env st):sem P G (n+1) f ds st Q:=⟨fd,c,a,by rwa[b]⟩
def aq7{b}(a:ds.length=np)env(c:G5 N ds cs=env)
  (h:i5 (Zg P G n) b (j9 Q) env st):G0 P G (n+1) np N b cs ds st Q:=⟨a,c▸h⟩
section
variable {Z:Sg} {F:DEnds} {env:i9} 
def ag1(c:P f=AA fd)(a:ds.length=fd.np)env(b:S7 fd ds=env)(h:i5 (Zl bX P G n) fd.body (j9 Q) env st):J0 bX P G (n+1) f ds st Q:=by
 cases bX
 ·exact i8 c a env b h
 ·exact J7 c a env b h
def a63{b}(a:ds.length=np)env(c:G5 N ds cs=env)(h:i5 (Zl bX P G n) b (j9 Q) env st):aa9 bX P G (n+1) np N b cs ds st Q:=by
 cases bX
 ·exact aq7 a env c h
 ·exact b07 a env c h
def U7(h:sem P G n f ds st Q):pF bX P G n f ds st Q:=by
 cases bX
 ·exact h
 ·exact .inr h
def au9(h:J0 bX P G n f ds st Q):pF bX P G n f ds st Q:=by
 cases bX
 ·exact h
 ·exact .inl h
def bl1{b}(h:aa9 bX P G n np N b cs ds st Q):pC bX P G n np N b cs ds st Q:=by
 cases bX
 ·exact h
 ·exact .inl h
def cu6{s}{r}:i5 Z (.cons s r) F env st=wpS Z s ⟨i5 Z r F,F.rt,F.bk,F.ct⟩ env st:=rfl
def c66:i5 Z .nil F env st=F.nx env st:=rfl
def c34:wpS Z (.set i e) F env st=wpE Z e env st λd st1=>F.nx (env.set i (AA d)) st1:=rfl
def cp6{o i}:wpS Z (.dput o i v) F env st=wpE Z v env st λd st1=>wpE Z o env st1 λx st2=>wpE Z i env st2 λy st3=>as7 x y d st3 λst4=>F.nx env st4:=rfl
def c31{o i}:wpS Z (.put o i v) F env st=wpE Z v env st λd st1=>wpE Z o env st1 λx st2=>wpE Z i env st2 λy st3=>∃a j k ds,x=.ref a/\y=.int j/\st3 a=AA (.lst ds)/\ixN ds.length j=AA k/\F.nx env (b0 st3 a (.lst (ds.set k d))):=rfl
def de3:wpS Z (.ex e) F env st=wpE Z e env st λ_ st1=>F.nx env st1:=rfl
def c52{a b}:wpS Z (.iff c a b) F env st=wpE Z c env st λd st1=>∃k,d=.bl k/\if k=AC then i5 Z a F env st1 else i5 Z b F env st1:=rfl
def cw2:wpS Z (.ret e) F env st=wpE Z e env st F.rt:=rfl
def co1:wpS Z .retN F env st=F.rt .non st:=rfl
def cy3{t}{it}{b}:wpS Z (.for t it b) F env st=B3 Z it env st λitems chk st1=>t6 chk t (i5 Z b) F items env st1:=rfl
def ck1:wpS Z .cont F env st=F.ct env st:=rfl
def cq0{t u c e}:wpS Z (.try1 f t u i c e) F env st=(Z.C "!ix"≠[]/\Z.X=AG/\Z.F f=AC/\∃x y,env[t]?=AA (AA x)/\env[u]?=AA (AA y) /\
   (Z.Phi f [x,y] (λ_=>AE) (λd _=>F.nx (env.set i (AA d)) st)\/
     (Z.T f [x,y] (λ_=>AE) (λd _=>F.nx (env.set i (AA d)) st)/\∀a,st a=AE->F.nx ((env.set e AE).set c (AA (.ref a))) (b0 st a (.exc "NoKind"))))):=rfl
def cp7:wpS Z .pass F env st=F.nx env st:=rfl
def c38:wpE Z .non env st Q=Q .non st:=rfl
def c99{b:Bool}:wpE Z (.bl b) env st Q=Q (.bl b) st:=rfl
def bj1{i:Int}:wpE Z (.int i) env st Q=Q (.int i) st:=rfl
def bk3{x:Str}:wpE Z (.str x) env st Q=Q (.str x) st:=rfl
def e_v:wpE Z (.v i) env st Q=∃d,env[i]?=AA (AA d)/\Q d st:=rfl
def cw9:wpE Z (.tup es) env st Q=r9 Z es env st λds st1=>Q (.tup ds) st1:=rfl
def c18:wpE Z (.lst es) env st Q=r9 Z es env st λds st1=>∀p,st1 p=AE->Q (.ref p) (b0 st1 p (.lst ds)):=rfl
def c11{o}:wpE Z (.bin o a b) env st Q=wpE Z a env st λx st1=>wpE Z b env st1 λy st2=>C3 o x y st2 Q:=rfl
def c64:wpE Z (.neg a) env st Q=wpE Z a env st λx st1=>∃i,x=.int i/\Q (.int (-i)) st1:=rfl
def c42{o}:wpE Z (.cmp o a b) env st Q=wpE Z a env st λx st1=>wpE Z b env st1 λy st2=>p7 o x y st2 Q:=rfl
def c56:wpE Z (.isN a) env st Q=wpE Z a env st λx st1=>x=.non/\Q (.bl AC) st1\/x≠.non/\Q (.bl AG) st1:=rfl
def cl7:wpE Z (.notN a) env st Q=wpE Z a env st λx st1=>x=.non/\Q (.bl AG) st1\/x≠.non/\Q (.bl AC) st1:=rfl
def c35:wpE Z (.and a b) env st Q=wpE Z a env st λx st1=>∃c,x=.bl c/\if c=AC then wpE Z b env st1 Q else Q (.bl AG) st1:=rfl
def de6:wpE Z (.or a b) env st Q=wpE Z a env st λx st1=>∃c,x=.bl c/\if c=AC then Q (.bl AC) st1 else wpE Z b env st1 Q:=rfl
def c69:wpE Z (.not a) env st Q=wpE Z a env st λx st1=>∃c,x=.bl c/\Q (.bl !c) st1:=rfl
def cy1:wpE Z (.ite c a b) env st Q=wpE Z c env st λx st1=>∃k,x=.bl k/\if k=AC then wpE Z a env st1 Q else wpE Z b env st1 Q:=rfl
def dd6:wpE Z (.ix a b) env st Q=wpE Z a env st λx st1=>wpE Z b env st1 λy st2=>ixR x y st2 Q:=rfl
abbrev bnd(Z:Sg)(e:E)(env:i9)(st:Sto):(Option Int->Sto->Prop)->Prop:=if e.isNon=AC then λk=>k AE st else λk=>wpE Z e env st λd st'=>∃i,d=.int i/\k (AA i) st'
def ca3{k}:bnd Z .non env st k=k AE st:=rfl
def P1{k}(h:e.isNon=AG):bnd Z e env st k=wpE Z e env st λd st'=>∃i,d=.int i/\k (AA i) st':=by
 unfold bnd;rw[h];rfl
def ca9{i}{k}:bnd Z (.int i) env st k=k (AA i) st:=propext ⟨λ⟨_,h,q⟩=>by simp_all,λq=>⟨_,rfl,q⟩⟩
def c39{lo hi}:wpE Z (.slw a lo hi) env st Q=wpE Z a env st λx st1=>bnd Z lo env st1 λl st2=>bnd Z hi env st2 λh st3=>ai6 x l h st3 Q:=rfl
def db8{lo hi}:wpE Z (.sl a lo hi) env st Q=wpE Z a env st λx st1=>bnd Z lo env st1 λl st2=>bnd Z hi env st2 λh st3=>slR x l h st3 Q:=rfl
def co2{ks}{vs}{k}:wpE Z (.dsel ks vs k) env st Q=r9 Z vs env st λds st1=>wpE Z k env st1 λx st2=>∃w d,x=.str w/\o9 (ks.zip ds) w=AA d/\Q d st2:=rfl
def cv8{k}:wpE Z (.gsel g k) env st Q=(Z.G g≠[]/\wpE Z k env st λx st1=>∃w d,x=.str w/\o9 (Z.G g) w=AA d/\Q d st1):=rfl
def c45:wpE Z (.len a) env st Q=wpE Z a env st λx st1=>U9 x st1 Q:=rfl
def cx6:wpE Z (.abs a) env st Q=wpE Z a env st λx st1=>∃i,x=.int i/\Q (.int (if i<0 then -i else i)) st1:=rfl
def cc7:wpE Z (.toInt a) env st Q=wpE Z a env st λx st1=>ag4 x st1 Q:=rfl
def cx3:wpE Z (.sum a) env st Q=wpE Z a env st λx st1=>ai8 x st1 Q:=rfl
def cp2:wpE Z (.list a) env st Q=wpE Z a env st λx st1=>ah4 x st1 Q:=rfl
def cf3:wpE Z (.tuple a) env st Q=wpE Z a env st λx st1=>aa3 x st1 Q:=rfl
def c40:wpE Z (.max a b) env st Q=wpE Z a env st λx st1=>wpE Z b env st1 λy st2=>∃i j,x=.int i/\y=.int j/\Q (.int (if j>i then j else i)) st2:=rfl
def cj7:wpE Z (.call f es) env st Q=(Z.F f=AC/\r9 Z es env st λds st1=>Z.Phi f ds st1 Q):=rfl
def dd9:wpE Z (.gf f) env st Q=(Z.F f=AC/\Q (.fn f) st):=rfl
def ce0:wpE Z (.callx c es) env st Q=wpE Z c env st λx st1=>∃f,x=.fn f/\Z.F f=AC/\r9 Z es env st1 λds st2=>Z.Phi f ds st2 Q:=rfl
def cj5{k d}:wpE Z (.gget g k d) env st Q=(Z.G g≠[]/\wpE Z k env st λx st1=>wpE Z d env st1 λy st2=>∃w,x=.str w/\Q ((o9 (Z.G g) w).getD y) st2):=rfl
def cw1:wpE Z (.fld a f) env st Q=wpE Z a env st λx st1=>∃p c b d,x=.ref p/\st1 p=AA (.ins c b)/\f∈Z.C c/\b.lookup f=AA d/\Q d st1:=rfl
def cq6{m}:wpE Z (.meth a m es) env st Q=wpE Z a env st λx st1=>∃p c b,x=.ref p/\st1 p=AA (.ins c b)/\b.lookup m=AE/\Z.F (c9 c m)=AC/\r9 Z es env st1 λds st2=>Z.Phi (c9 c m) (.ref p::ds) st2 Q:=rfl
def ch8{c}:wpE Z (.make c es) env st Q=(Z.MF (c9 c "__init__")=AC/\r9 Z es env st λds st1=>∀p,st1 p=AE->Z.Mk (c9 c "__init__") (.ref p::ds) (b0 st1 p (.ins c [])) λv st2=>v=.non/\Q (.ref p) st2):=rfl
def cu0{o}:wpS Z (.fldS o f v) F env st=wpE Z v env st λd st1=>wpE Z o env st1 λx st2=>∃p c a,x=.ref p/\st2 p=AA (.ins c a)/\f∈Z.C c/\a.length<1000/\F.nx env (b0 st2 p (.ins c (l7 f d a))):=rfl
def cl3:wpS Z .dead F env st=False:=rfl
def b93:wpE Z (.callv i es) env st Q=∃x,env[i]?=AA (AA x)/\T9 Z (r9 Z es env) st Q x:=rfl
def cy5{ta}:T9 Z ta st Q (.fn f)=(Z.F f=AC/\ta st λds st1=>Z.Phi f ds st1 Q):=rfl
def cq4{ta}{b}:T9 Z ta st Q (.clo np N b cs)=ta st λds st1=>Z.PhiC np N b cs ds st1 Q:=rfl
abbrev X9(env:i9):List Nat->(List D->Prop)->Prop
 |[],k=>k []
 |i::is,k=>∃d,env[i]?=AA (AA d)/\X9 env is λds=>k (d::ds)
def by5{k:List D->Prop}:X9 env [] k=k []:=rfl
def a04{is}{k}:X9 env (i::is) k=∃d,env[i]?=AA (AA d)/\X9 env is λds=>k (d::ds):=rfl
theorem at1:∀{cp}{k},(∃b,O3 env cp=AA b/\k b)=X9 env cp k
 |[],k=>propext ⟨λ⟨_,h,q⟩=>by cases h;exact q,λq=>⟨_,rfl,q⟩⟩
 |i::f,k=>by
  refine propext ⟨λ⟨b,h,q⟩=>?_,λ⟨d,c,q⟩=>?_⟩
  ·unfold O3 at h
   split at h
   ·rename_i d ds e a;cases h;exact⟨d,e,(at1)▸⟨ds,a,q⟩⟩
   ·cases h
  ·rw[<-at1]at q;obtain⟨ds,a,q⟩:=q;exact⟨d::ds,by unfold O3;rw[c,a],q⟩
def c22{cp}{b}:wpS Z (.dfn i np N cp b) F env st=X9 env cp λcs=>F.nx (env.set i (AA (.clo np N b cs))) st:=at1
def c96:wpE Z (.gc g) env st Q=∃d,Z.Kc g=AA d/\Q d st:=rfl
def c08{t}:wpE Z (.isT t a) env st Q=wpE Z a env st λx st1=>ah9 t x st1 Q:=rfl
def cz3:wpE Z (.app a b) env st Q=wpE Z a env st λx st1=>E3 x st1/\wpE Z b env st1 λy st2=>ab9 x y st2 Q:=rfl
def cz6:wpE Z (.ext a b) env st Q=wpE Z a env st λx st1=>E3 x st1/\wpE Z b env st1 λy st2=>ac6 x y st2 Q:=rfl
def cf0:wpE Z (.popAt a b) env st Q=wpE Z a env st λx st1=>E3 x st1/\wpE Z b env st1 λy st2=>ar2 x y st2 Q:=rfl
def c50:wpE Z (.pop a) env st Q=wpE Z a env st λx st1=>ac7 x st1 Q:=rfl
def ca4{m}:wpE Z (.methd a m es) env st Q=wpE Z a env st λx st1=>∃p c b i,x=.ref p/\st1 p=AA (.ins c b)/\b.lookup m=AE/\Z.F (c9 c m)=AC/\z8 Z.C (c9 c m)=AA i/\r9 Z es env st1 λds st2=>Z.Phi (c9 c m) (.ref p::(ds++[.int i])) st2 Q:=rfl
def c12{c}:wpE Z (.isX c a) env st Q=(c∈Z.C "!ix"/\wpE Z a env st λx st1=>∃p k,x=.ref p/\exK st1 p k/\k∈Z.C "!xk"/\Q (.bl (C6 k c)) st1):=rfl
def c61{c}:wpE Z (.mkx c) env st Q=(c∈Z.C "!mx"/\∀p,st p=AE->Q (.ref p) (b0 st p (.exc c))):=rfl
def c17:wpE Z (.mks a) env st Q=(Z.C "!ns"≠[]/\Z.MF "law"=AC/\wpE Z a env st λx st1=>∃n,x=.int n/\∀p,st1 p=AE->Q (.ref p) (b0 st1 p (.exa "NoStep" n))):=rfl
def c62:wpE Z (.xat a) env st Q=(Z.C "!ns"≠[]/\wpE Z a env st λx st1=>∃p n,x=.ref p/\st1 p=AA (.exa "NoStep" n)/\Q (.int n) st1):=rfl
def cu7:wpE Z (.denu a) env st Q=wpE Z a env st λx st1=>∃ds,x=.tup ds/\ds.length<=1000000/\∀p,st1 p=AE->Q (.ref p) (b0 st1 p (.dct (p9 0 ds))):=rfl
def c02:wpE Z (.igt a b) env st Q=wpE Z a env st λx st1=>av2 x st1/\wpE Z b env st1 λy st2=>au2 x y st2 Q:=rfl
def c54:wpE Z .dnt env st Q=(Z.C "!kt"≠[]/\∀p,st p=AE->Q (.ref p) (b0 st p (.dtt []))):=rfl
def c27:wpE Z (.dgt a b) env st Q=wpE Z a env st λx st1=>av0 x st1/\wpE Z b env st1 λy st2=>au4 x y st2 Q:=rfl
def cw8{ne}:wpE Z (.din ne a b) env st Q=wpE Z a env st λx st1=>wpE Z b env st1 λy st2=>U8 ne x y st2 Q:=rfl
def ck7:wpE Z (.lrev a) env st Q=wpE Z a env st λx st1=>ac5 x st1 Q:=rfl
def b95:wpE Z (.index a b) env st Q=wpE Z a env st λx st1=>ac2 x st1/\wpE Z b env st1 λy st2=>T5 x y st2 Q:=rfl
def cm4{Q:List D->Sto->Prop}:r9 Z .nil env st Q=Q [] st:=rfl
def cd4{r}{Q}:r9 Z (.cons e r) env st Q=wpE Z e env st λd st1=>r9 Z r env st1 λds st2=>Q (d::ds) st2:=rfl
abbrev G1(Z:Sg)(c:E):DB:=if c.isNon=AC then λ_ st Q=>Q AC st else λenv st Q=>wpE Z c env st λd st'=>∃b,d=.bl b/\Q b st'
def cr3{Nc}{fr}{k}{t}{it}:wpE (Zg P G n) (.comp Nc fr k t it c e) env st Q=B3 (Zg P G n) it env st λitems chk st1=>items.length<=1000000/\z6 chk t (G1 (Zg P G n) c) (λenv st Q=>wpE (Zg P G n) e env st Q) (λacc st'=>∀p,st' p=AE->Q (.ref p) (b0 st' p (.lst acc))) items [] (S6 fr k env) st1:=propext ⟨λh=>h.2,λh=>⟨rfl,h⟩⟩
variable {k:ItK}
def c65:B3 Z (.seq e) env st k=wpE Z e env st λd st1=>(∃ds,d=.tup ds/\k ds (λ_=>True) st1)\/∃a ds,d=.ref a/\rdS st1 a ds/\k ds (λst'=>rdS st' a ds) st1:=rfl
def c09:B3 Z (.rng a) env st k=wpE Z a env st λd st1=>∃j:Int,d=.int j/\(-2^62<=j/\j<2^62)/\k (v5 0 j.toNat) (λ_=>True) st1:=rfl
def cq1:B3 Z (.rng2 a b) env st k=wpE Z a env st λd st1=>wpE Z b env st1 λe st2=>∃i j:Int,d=.int i/\e=.int j/\(-2^62<=i/\i<2^62/\-2^62<=j/\j<2^62)/\k (v5 i (j-i).toNat) (λ_=>True) st2:=rfl
def cu1:B3 Z (.revt e) env st k=wpE Z e env st λd st1=>∃ds,d=.tup ds/\k ds.reverse (λ_=>True) st1:=rfl
def cn5:B3 Z (.enum e) env st k=wpE Z e env st λd st1=>(∃ds,d=.tup ds/\k (p8 0 ds) (λ_=>True) st1)\/∃a ds,d=.ref a/\rdS st1 a ds/\k (p8 0 ds) (λst'=>rdS st' a ds) st1:=rfl
def c72:B3 Z (.rev e) env st k=wpE Z e env st λd st1=>∃a ds,d=.ref a/\rdS st1 a ds/\k ds.reverse (λst'=>rdS st' a ds) st1:=rfl
end
end
section
variable{i:Int}{lo hi:Option Int}{chk:Sto->Prop}{env:i9}
section
variable {st:Sto} {Q:DK} {j:Int} {a p:AI} {ds es xs ys:List D} {x y d:D}
def dc0{a}{r:i9}{Q:D->Prop}:(∃d,(AA a::r)[0]?=AA (AA d)/\Q d)=Q a:=propext ⟨λ⟨_,h,q⟩=>by simp_all,λq=>⟨a,rfl,q⟩⟩
def da5{a}{r:i9}{i}{Q:D->Prop}:(∃d,(a::r)[i+1]?=AA (AA d)/\Q d)=∃d,r[i]?=AA (AA d)/\Q d:=rfl
def da4{a}{Q:D->Prop}:(∃d,AA (AA a)=AA (AA d)/\Q d)=Q a:=propext ⟨λ⟨_,h,q⟩=>by grind,λq=>⟨a,rfl,q⟩⟩
def cz4{Q:Int->Prop}:(∃d,D.int i=.int d/\Q d)=Q i:=propext ⟨λ⟨_,h,q⟩=>⋯,λq=>⟨i,rfl,q⟩⟩
def c75{i}{Q:Bool->Prop}:(∃d,D.bl i=.bl d/\Q d)=Q i:=propext ⟨λ⟨_,h,q⟩=>⋯,λq=>⟨i,rfl,q⟩⟩
def cz1{Q:List D->Prop}:(∃d,D.tup ds=.tup d/\Q d)=Q ds:=propext ⟨λ⟨_,h,q⟩=>⋯,λq=>⟨_,rfl,q⟩⟩
def cm8{b:Type}{a}{Q:b->Prop}:(∃d,AA a=AA d/\Q d)=Q a:=propext ⟨λ⟨_,h,q⟩=>by grind,λq=>⟨a,rfl,q⟩⟩
def c15{i}{l}{Q:D->Prop}:(∃w d,D.str i=.str w/\o9 l w=AA d/\Q d)=∃d,o9 l i=AA d/\Q d:=propext ⟨λ⟨_,d,h,e,q⟩=>by simp_all,λ⟨d,e,q⟩=>⟨_,d,rfl,e,q⟩⟩
def cv1{j}{Q:Int->Int->Prop}:(∃a b,D.int i=.int a/\D.int j=.int b/\Q a b)=Q i j:=propext ⟨λ⟨_,_,h,h',q⟩=>by grind,λq=>⟨_,_,rfl,rfl,q⟩⟩
def cl6:C3 .Add (.int i) (.int j) st Q=Q (.int (i+j)) st:=rfl
def ct7:C3 .Add (.tup xs) (.tup ys) st Q=(xs.length+ys.length<=sizeLine/\Q (.tup (xs++ys)) st):=rfl
def cs0:C3 .Sub (.int i) (.int j) st Q=Q (.int (i-j)) st:=rfl
def cr5:C3 .Mult (.int i) (.int j) st Q=(U4 i j/\Q (.int (i*j)) st):=rfl
def bg6:C3 .Mod (.int i) (.int j) st Q=(0<j/\Q (.int (i % j)) st):=rfl
def co5:C3 .FloorDiv (.int i) (.int j) st Q=(as5 i j/\Q (.int (i / j)) st):=rfl
def cp0:C3 .Pow (.int i) (.int j) st Q=(au3 i j/\Q (.int (i^j.toNat)) st):=rfl
def ap9:deq (.int i) (.int j)=AB (i=j):=rfl
def J9{x y}:deq (.str x) (.str y)=AB (x=y):=rfl
abbrev E1:List D->List D->Bool
 |[],[]=>AC
 |x::xs,y::ys=>deq x y&&E1 xs ys
 |_,_=>AG
theorem bb4:∀b a,DC (D.pys b) (D.pys a)=E1 b a
 |[],[]=>rfl
 |[],_::_=>rfl
 |_::_,[]=>rfl
 |x::b,y::a=>by show(As x.py y.py&&DC (D.pys b) (D.pys a))=_;rw[bb4 b a];rfl
def V7:deq (.tup xs) (.tup ys)=E1 xs ys:=by
 show As (.tuple (D.pys xs)) (.tuple (D.pys ys))=_;rw[As,bb4]
def aa1:o4 (.int i)=0:=rfl
def E6{x:Str}:o4 (.str x)=0:=rfl
def c25:p7 .Eq (.int i) (.int j) st Q=Q (.bl (AB (i=j))) st:=propext ⟨λh=>h.2.2.2,λh=>⟨rfl,rfl,(BU _),h⟩⟩
def aa7:p7 .NotEq (.int i) (.int j) st Q=Q (.bl !decide (i=j)) st:=propext ⟨λh=>h.2.2.2,λh=>⟨rfl,rfl,(BU _),h⟩⟩
def as2{x y}:p7 .Eq (.str (Ab x)) (.str (Ab y)) st Q=Q (.bl (AB (x=y))) st:=by
 show(_/\_/\_/\_)=_;simp only[J9,u6];exact propext ⟨λh=>h.2.2.2,λh=>⟨E4 _,E4 _,BU _,h⟩⟩
def ab2{x y}:p7 .NotEq (.str (Ab x)) (.str (Ab y)) st Q=Q (.bl !decide (x=y)) st:=by
 show(_/\_/\_/\_)=_;simp only[J9,u6];exact propext ⟨λh=>h.2.2.2,λh=>⟨E4 _,E4 _,BU _,h⟩⟩
def ah8:p7 .Eq x y st Q=(x.pure=AC/\y.pure=AC/\FB (o4 x) (o4 y)<=150/\Q (.bl (deq x y)) st):=rfl
def ah7:p7 .NotEq x y st Q=(x.pure=AC/\y.pure=AC/\FB (o4 x) (o4 y)<=150/\Q (.bl !deq x y) st):=rfl
def cz2:(False/\False)=False:=and_false _
def cg7:(False/\False)=False:=and_false _
def c19:p7 .Lt (.int i) (.int j) st Q=Q (.bl (AB (i<j))) st:=rfl
def cx4:p7 .LtE (.int i) (.int j) st Q=Q (.bl (AB (i<=j))) st:=rfl
def c58:p7 .Gt (.int i) (.int j) st Q=Q (.bl (AB (j<i))) st:=rfl
def c33:p7 .GtE (.int i) (.int j) st Q=Q (.bl (AB (j<=i))) st:=rfl
def bl7:p7 .In x (.tup ys) st Q=(x.pure=AC/\D.pures ys=AC/\o4 x<=150/\Q (.bl (ys.any λy=>deq y x)) st):=rfl
def at9{ks}:p7 .In (.int i) (.ktup ks) st Q=Q (.bl (ks.any λk=>AB (k=.inl i))) st:=rfl
def cx9:(False/\False)=False:=and_false _
def dd3:ixR (.tup ds) (.int i) st Q=∃d,atI ds i=AA d/\Q d st:=rfl
def c88:ixR (.ref a) (.int i) st Q=((∃ds d,rdS st a ds/\atI ds i=AA d/\Q d st)\/False):=rfl
def ag9(h:rdS st a xs)(h':rdS st a ys):xs=ys:=by
 rcases h with h|h<;>rcases h' with h'|h'<;>rw[h]at h'<;>cases h'<;>rfl
def l6(h:rdS st a ds):ixR (.ref a) (.int i) st Q=∃d,atI ds i=AA d/\Q d st:=propext ⟨λz=>z.elim (λ⟨b,d,r,q⟩=>ag9 h r▸⟨d,q⟩) AU,λ⟨d,q⟩=>.inl ⟨ds,d,h,q⟩⟩
def P8:rdS (b0 st p (.lst ds)) p ds:=.inl f7
def c67:ixR (.ref p) (.int i) (b0 st p (.lst ds)) Q=∃d,atI ds i=AA d/\Q d (b0 st p (.lst ds)):=l6 P8
def ai1{α}{a:List α}:atI a 0=a[0]?:=by
 unfold atI ixN;simp;split
 ·rfl
 ·simp_all
def C8{α}{a:List α}{k:Nat}:atI a k=a[k]?:=by
 unfold atI ixN;rw[if_pos ⋯];split
 ·rfl
 ·simp_all
def da9{b:Type}{a:List b}:atI a 1=a[1]?:=C8 (k:=1)
def da7{b:Type}{a:List b}:atI a 2=a[2]?:=C8 (k:=2)
def da2{b:Type}{a:List b}:atI a 3=a[3]?:=C8 (k:=3)
def c01:ai6 (.tup ds) lo hi st Q=Q (.tup (A8 ds lo hi)) st:=rfl
def da8:slR (.tup ds) lo hi st Q=(¬(HT.sIx ds.length 0 lo=0/\HT.sIx ds.length ds.length hi=ds.length)/\Q (.tup (A8 ds lo hi)) st):=rfl
def au7(h:rdS st a ds):slR (.ref a) lo hi st Q=∀p,st p=AE->Q (.ref p) (b0 st p (.lst (A8 ds lo hi))):=propext ⟨λ⟨b,r,q⟩=>ag9 h r▸q,λq=>⟨ds,h,q⟩⟩
def cz8:U9 (.tup ds) st Q=Q (.int ds.length) st:=rfl
def v6(h:rdS st a ds):U9 (.ref a) st Q=Q (.int ds.length) st:=propext ⟨λ⟨b,r,q⟩=>ag9 h r▸q,λq=>⟨ds,h,q⟩⟩
def cw0:U9 (.ref p) (b0 st p (.lst ds)) Q=Q (.int ds.length) (b0 st p (.lst ds)):=v6 P8
def c06{b:Bool}:ag4 (.bl b) st Q=Q (.int (if b then 1 else 0)) st:=rfl
def c10:(False/\False)=False:=and_false _
def cr2:ah4 (.tup ds) st Q=∀p,st p=AE->Q (.ref p) (b0 st p (.lst ds)):=rfl
def b72:(False/\False)=False:=and_false _
def bc8(h:rdS st a ds):aa3 (.ref a) st Q=Q (.tup ds) st:=propext ⟨λ⟨b,r,q⟩=>ag9 h r▸q,λq=>⟨ds,h,q⟩⟩
def by6:aa3 (.ref p) (b0 st p (.lst ds)) Q=Q (.tup ds) (b0 st p (.lst ds)):=bc8 P8
def cw4(h:rdS st a ds):bd4 (.ref a) st Q=Q (.bl AC) st:=propext ⟨λ⟨b,r,q⟩=>q,λq=>⟨ds,h,q⟩⟩
def co0:bd4 (.ref p) (b0 st p (.lst ds)) Q=Q (.bl AC) (b0 st p (.lst ds)):=cw4 P8
def cx7{ns:List Int}(h:rdS st a (ns.map D.int))(q:Q (.int ns.sum) st):ai8 (.ref a) st Q:=⟨ns,h,q⟩
def B0(h:rdS st a ds):E3 (.ref a) st=True:=propext ⟨λ_=>trivial,λ_=>⟨ds,h⟩⟩
def ce7:E3 (.ref p) (b0 st p (.lst ds))=True:=B0 P8
def cn2:ac2 (.tup ds) st=True:=rfl
def D6(h:st a=AA (.lst ds)):ab9 (.ref a) d st Q=(ds.length<sizeLine/\Q .non (b0 st a (.lst (ds++[d])))):=propext ⟨λ⟨b,r,q⟩=>by simp_all,λq=>⟨ds,h,q⟩⟩
def bj9{b}(h:st a=AA (.lst ds))(h':st b=AA (.lst es)):ac6 (.ref a) (.ref b) st Q=(ds.length+es.length<=sizeLine/\Q .non (b0 st a (.lst (ds++es)))):=(propext ⟨λ⟨_,_,r,c,q⟩=>by simp_all,λq=>⟨ds,es,h,h',q⟩⟩)
def cb4{t}{tb}{F}:t6 chk t tb F [] env st=(chk st/\F.nx env st):=by rw[t6]
def b16{t}{tb}{F}:t6 chk t tb F (d::ds) env st=(chk st/\N9 t d env λenv'=>tb {F with nx:=t6 chk t tb F ds,ct:=t6 chk t tb F ds,bk:=F.nx} env' st):=by rw[t6]
def cv4{k}{K}:N9 (.n k) d env K=K (env.set k (AA d)):=rfl
def ci4{is}{K}:N9 (.tup is) (.tup ds) env K=(ds.length=is.length/\K (T7 env is ds)):=propext ⟨λ⟨a,r,q⟩=>by simp_all,λq=>⟨ds,rfl,q⟩⟩
def bo9{k}{is}:T7 env (k::is) (d::ds)=T7 (env.set k (AA d)) is ds:=rfl
def bq4:T7 env [] []=env:=rfl
def by4{t}{tc}{te}{R}{acc}:z6 chk t tc te R [] acc env st=(chk st/\R acc st):=by rw[z6]
def bu9{t}{tc}{te}{R}{acc}:z6 chk t tc te R (d::ds) acc env st=(chk st/\N9 t d env λenv'=>tc env' st λb st1=>if b=AC then te env' st1 λv st2=>z6 chk t tc te R ds (acc++[v]) env' st2 else z6 chk t tc te R ds acc env' st1):=by rw[z6]
def c41{k:ItK}:((∃b,D.tup ds=.tup b/\k b (λ_=>True) st)\/(∃a b,D.tup ds=.ref a/\rdS st a b/\k b (λst'=>rdS st' a b) st))=k ds (λ_=>True) st:=
 propext ⟨λh=>by
  simp_all,λq=>.inl ⟨ds,rfl,q⟩⟩
def cl1{k:ItK}:((∃b,D.tup ds=.tup b/\k (p8 0 b) (λ_=>True) st)\/(∃a b,D.tup ds=.ref a/\rdS st a b/\k (p8 0 b) (λst'=>rdS st' a b) st))=k (p8 0 ds) (λ_=>True) st:=
 propext ⟨λh=>by
  simp_all,λq=>.inl ⟨ds,rfl,q⟩⟩
end
end
theorem L4{chk}{t}{tb}{F}(I:List D->i9->Sto->Prop)(b:∀env st,I [] env st->chk st/\F.nx env st)
  (a:∀d ds env st,(∀env st,I ds env st->t6 chk t tb F ds env st)->I (d::ds) env st->chk st/\N9 t d env λenv'=>tb {F with nx:=t6 chk t tb F ds,ct:=t6 chk t tb F ds,bk:=F.nx} env' st):∀ds env st,I ds env st->t6 chk t tb F ds env st
 |[],env,st,h=>b env st h
 |d::ds,env,st,h=>a d ds env st (L4 I b a ds) h
theorem R9{chk}{t}{tc}{te}{R}(I:List D->List D->i9->Sto->Prop)(e:∀a env st,I [] a env st->chk st/\R a st)
  (c:∀d ds a env st,(∀a env st,I ds a env st->z6 chk t tc te R ds a env st)->I (d::ds) a env st->chk st/\N9 t d env λenv'=>tc env' st λb st1=>if b=AC then te env' st1 λv st2=>z6 chk t tc te R ds (a++[v]) env' st2 else z6 chk t tc te R ds a env' st1):∀ds a env st,I ds a env st->z6 chk t tc te R ds a env st
 |[],a,env,st,h=>e a env st h
 |d::ds,a,env,st,h=>c d ds a env st (R9 I e c ds) h
def cb9{Z}{env}{st}{K}:G1 Z .non env st K=K AC st:=rfl
def Y5{Z}{c}{env}{st}{K}(h:c.isNon=AG):G1 Z c env st K=wpE Z c env st λd st'=>∃b,d=.bl b/\K b st':=by unfold G1;rw[h];rfl
def ag6{i j:Int}(h:-(2^64)<j/\j<2^64):U4 i j:=.inl (.inr h)
def W0{i j:Int}(h:-(2^64)<i/\i<2^64):U4 i j:=.inl (.inl h)
def aa5{n:Nat}(h:n<=16000000):n<=sizeLine:=Ax h ∅
def D5{n:Nat}(h:n<16000000):n<sizeLine:=Ah h ∅
end Ek
namespace Ek
abbrev Ss.drop:Nat->Ss->Ss
 |0,s=>s
 |_+1,.nil=>.nil
 |k+1,.cons _ r=>Ss.drop k r
def dd8{ds}{R:PySem.Addr->List D->Prop}:(∃a b,D.tup ds=.ref a/\R a b)=False:=propext ⟨λ⟨_,_,h,_⟩=>(by cases h),AU⟩
def c98{a}{R:List D->Prop}:(∃b,D.ref a=.tup b/\R b)=False:=propext ⟨λ⟨_,h,_⟩=>(by cases h),AU⟩
def c74{a}{R:PySem.Addr->List D->Prop}:(∃b c,D.ref a=.ref b/\R b c)=∃c,R a c:=propext ⟨λ⟨_,c,h,q⟩=>by cases h;exact⟨c,q⟩,λ⟨c,q⟩=>⟨a,c,rfl,q⟩⟩
end Ek
namespace Ek
open PySem L2
section
section
variable {Z:Sg} {env:i9} {st:Sto} {k:Option Int->Sto->Prop} {K:Bool->Sto->Prop} {a b:E}
def cf9{o}:bnd Z (.bin o a b) env st k=wpE Z (.bin o a b) env st λd st'=>∃i,d=.int i/\k (AA i) st':=P1 rfl
def c14{j}:bnd Z (.v j) env st k=wpE Z (.v j) env st λd st'=>∃i,d=.int i/\k (AA i) st':=P1 rfl
def b51{g}:bnd Z (.gsel g a) env st k=wpE Z (.gsel g a) env st λd st'=>∃i,d=.int i/\k (AA i) st':=P1 rfl
def cd8:bnd Z (.len a) env st k=wpE Z (.len a) env st λd st'=>∃i,d=.int i/\k (AA i) st':=P1 rfl
def b98:bnd Z (.neg a) env st k=wpE Z (.neg a) env st λd st'=>∃i,d=.int i/\k (AA i) st':=P1 rfl
def cs4:bnd Z (.ix a b) env st k=wpE Z (.ix a b) env st λd st'=>∃i,d=.int i/\k (AA i) st':=P1 rfl
def b20{f}{es}:bnd Z (.call f es) env st k=wpE Z (.call f es) env st λd st'=>∃i,d=.int i/\k (AA i) st':=P1 rfl
def cg8{o}:G1 Z (.cmp o a b) env st K=wpE Z (.cmp o a b) env st λd st'=>∃b,d=.bl b/\K b st':=Y5 rfl
def b55:G1 Z (.and a b) env st K=wpE Z (.and a b) env st λd st'=>∃b,d=.bl b/\K b st':=Y5 rfl
def cl0:G1 Z (.or a b) env st K=wpE Z (.or a b) env st λd st'=>∃b,d=.bl b/\K b st':=Y5 rfl
def b75:G1 Z (.not a) env st K=wpE Z (.not a) env st λd st'=>∃b,d=.bl b/\K b st':=Y5 rfl
def b01{f}{es}:G1 Z (.call f es) env st K=wpE Z (.call f es) env st λd st'=>∃b,d=.bl b/\K b st':=Y5 rfl
end
def af9{n d:Nat}:HT.sIx n d AE=d:=rfl
def ah1{n d k:Nat}:HT.sIx n d (AA k)=min k n:=rfl
def bg9{ds}{k:Nat}:A8 ds AE (AA k)=ds.take k:=by
 unfold A8;rw[af9,ah1]
 simp_all
def b45{ds}{k:Nat}:A8 ds (AA k) AE=ds.drop k:=by
 unfold A8;rw[af9,ah1]
 by_cases h:k<=ds.length
 ·rw[HK h,Cv (by rw[EG];lia)]
 ·rw[Jl ⋯,DY (AX _),DY ⋯,List.take_nil]
variable{st:Sto}{Q:DK}
def c92{t}{d}{ty}(h:tyD d st=AA ty)(q:Q (.bl (ty==t||ty=="bool"&&t=="int")) st):ah9 t d st Q:=.inl ⟨ty,h,q⟩
def b78{Z}{F}{env}{c}{b}:wpS Z (.while c b) F env st=∃n,A4 (wpT Z c) (i5 Z b) F n env st:=rfl
def cg2{Z}{e}{env}{K}:wpT Z e env st K=wpE Z e env st λd st'=>∃b,d=.bl b/\K b st':=rfl
def bw6{tc}{tb}{F}(I:Nat->i9->Sto->Prop)(d:∀m env st W,I m env st->(∀m' a c,m'<m->I m' a c->W a c)->tc env st λb st1=>if b=AC then tb {F with nx:=W,ct:=W,bk:=F.nx} env st1 else F.nx env st1):∀m env st,I m env st->∃n,A4 tc tb F n env st:=by
 have e:∀k m env st,m<=k->I m env st->A4 tc tb F (k+1) env st:=by
  intro k
  induction k with
  |zero=>
   intro m env st l f;exact d m env st _ f λm' a c hlt _=>by lia
  |succ k j=>
   intro m env st l f;exact d m env st _ f λm' a c hlt=>j m' a c ⋯
 exact λm env st f=>⟨m+1,e m m env st (AX _) f⟩
def ab4{a:AI}{ds:List D}{d:D}(h:st a=AA (.lst (ds++[d]))):ac7 (.ref a) st Q=Q d (b0 st a (.lst ds)):=by
 show(∃ds d,st a=AA (.lst (ds++[d]))/\_)=_;refine propext ⟨λ b=>?_,λq=>⟨ds,d,h,q⟩⟩;obtain⟨g,e,r,q⟩:=b;rw[h]at r;simp only[Bj,Ob.lst.injEq]at r;obtain⟨f,c⟩:=List.append_inj' r rfl;cases c;rw[f];exact q
def c49{a:AI}{ds:List D}(h:st a=AA (.lst ds)):ac5 (.ref a) st Q=Q .non (b0 st a (.lst ds.reverse)):=by
 show(∃ds,st a=AA (.lst ds)/\_)=_;exact propext ⟨λ⟨_,r,q⟩=>by rw[h]at r;cases r;exact q,λq=>⟨ds,h,q⟩⟩
def de4{f}{Q:Str->Prop}:(∃g,AA (AA (D.fn f))=AA (AA (.fn g))/\Q g)=Q f:=propext ⟨λ⟨_,h,q⟩=>by grind,λq=>⟨f,rfl,q⟩⟩
end
section
variable{x:String}
section
variable {Z:Sg} {F:DEnds} {env:i9} {st:Sto} {Q:DK} {a b c e:D} {l:List D} {A B:Prop} {i:Nat} {s:S} {t u:Ss}
def ai7{n:Nat}{k:Int}(e:k=n)(h:l[n]?=AA a):ixR (.tup l) (.int k) st Q=Q a st:=by
 subst e;exact propext ⟨λ⟨_,h',q⟩=>by rw[C8,h]at h';cases h';exact q,λq=>⟨a,C8▸h,q⟩⟩
def dc7:ixR (.tup (a::l)) (.int 0) st Q=Q a st:=ai7 rfl rfl
def db6:ixR (.tup (b::a::l)) (.int 1) st Q=Q a st:=ai7 rfl rfl
def c86:ixR (.tup (b::c::a::l)) (.int 2) st Q=Q a st:=ai7 rfl rfl
def de7:ixR (.tup (b::c::e::a::l)) (.int 3) st Q=Q a st:=ai7 rfl rfl
def c87:(∃k,D.bl AC=.bl k/\if k=AC then A else B)=A:=propext ⟨λ⟨_,h,q⟩=>by simp_all,λq=>⟨_,rfl,q⟩⟩
def da3:(∃k,D.bl AG=.bl k/\if k=AC then A else B)=B:=propext ⟨λ⟨_,h,q⟩=>by simp_all,λq=>⟨_,rfl,q⟩⟩
def c32:p7 .Eq (.str (Ab x)) (.str (Ab x)) st Q=Q (.bl AC) st:=by rw[as2,decide_eq_true rfl]
def bj2{y}(h:AB (x=y)=AG):p7 .Eq (.str (Ab x)) (.str (Ab y)) st Q=Q (.bl AG) st:=by rw[as2,h]
def c20:p7 .NotEq (.str (Ab x)) (.str (Ab x)) st Q=Q (.bl AG) st:=by rw[ab2,decide_eq_true rfl];rfl
def ar9{y}(h:AB (x=y)=AG):p7 .NotEq (.str (Ab x)) (.str (Ab y)) st Q=Q (.bl AC) st:=by rw[ab2,h];rfl
def bl0(h:wpS Z s ⟨i5 Z t F,F.rt,F.bk,F.ct⟩ env st):i5 Z (.cons s t) F env st:=h
def sk1{w s}(h:env[i]?=AA (AA (.str (Ab w))))(e:w≠s)(q:i5 Z t F env st):i5 Z (.cons (.iff (.cmp .Eq (.v i) (.str (Ab s))) u .nil) t) F env st:=by
 refine⟨_,h,?_⟩;simp only[bk3];rw[bj2 (decide_eq_false e)];exact⟨_,rfl,q⟩
def skN{d}(h:env[i]?=AA (AA d))(e:d≠.non)(q:i5 Z t F env st):i5 Z (.cons (.iff (.isN (.v i)) u .nil) t) F env st:=
 ⟨_,h,.inr ⟨e,AG,rfl,q⟩⟩
end
end
section
variable{m:Nat}
inductive Kd where
 |non|one|eith (a b:Kd)|both (a b:Kd)|way (a b:Kd)
 deriving DecidableEq
abbrev Kd.d:Kd->D
 |.non=>.tup [.str "none"]
 |.one=>.tup [.str "one"]
 |.eith a b=>.tup [.str "either",a.d,b.d]
 |.both a b=>.tup [.str "both",a.d,b.d]
 |.way a b=>.tup [.str "way",a.d,b.d]
abbrev Kd.cnt:Kd->Nat
 |.non=>0|.one=>1
 |.eith a b=>a.cnt+b.cnt
 |.both a b=>a.cnt*b.cnt
 |.way a b=>b.cnt^a.cnt
abbrev Kd.nest:Kd->Nat
 |.non=>0|.one=>0
 |.eith a b=>1+max a.nest b.nest
 |.both a b=>1+max a.nest b.nest
 |.way a b=>1+max a.nest b.nest
abbrev Kd.bd(m:Nat):Kd->Prop
 |.non=>True|.one=>1<=m
 |.eith a b=>a.bd m/\b.bd m/\a.cnt+b.cnt<=m
 |.both a b=>a.bd m/\b.bd m/\a.cnt*b.cnt<=m
 |.way a b=>a.bd m/\b.bd m/\b.cnt^a.cnt<=m
def Kd.bd_le:∀{k:Kd},k.bd m->k.cnt<=m
 |.non,_=>BU _
 |.one,h=>h
 |.eith _ _,h=>h.2.2
 |.both _ _,h=>h.2.2
 |.way _ _,h=>h.2.2
theorem Kd.bd_mono{m'}(a:m<=m'):∀{k:Kd},k.bd m->k.bd m'
 |.non,_=>trivial
 |.one,h=>Ax h a
 |.eith _ _,h=>⟨bd_mono a h.1,bd_mono a h.2.1,Ax h.2.2 a⟩
 |.both _ _,h=>⟨bd_mono a h.1,bd_mono a h.2.1,Ax h.2.2 a⟩
 |.way _ _,h=>⟨bd_mono a h.1,bd_mono a h.2.1,Ax h.2.2 a⟩
def ab5{k:Kd}(h:k.bd m):∀a b,k=.eith a b\/k=.both a b\/k=.way a b->a.bd m/\b.bd m:=λa b e=>by
 rcases e with e|e|e<;>(subst e;exact⟨h.1,h.2.1⟩)
abbrev Kd.good:Kd->Prop
 |.non=>False|.one=>True
 |.eith a b=>(a.good/\b.good)\/(a=.non/\b.good)\/(a.good/\b=.non)
 |.both a b=>a.good/\b.good
 |.way a b=>(a.good\/a=.non)/\b.good/\a.cnt<=6
theorem Kd.good_pos:∀{k:Kd},k.good->0<k.cnt
 |.one,_=>Nat.one_pos
 |.eith a b,h=>by
  show 0<a.cnt+b.cnt
  rcases h with h|h|h
  ·have:=good_pos h.1;lia
  ·have:=good_pos h.2;lia
  ·have:=good_pos h.1;lia
 |.both a b,h=>Nat.mul_pos (good_pos h.1) (good_pos h.2)
 |.way a b,h=>pow_pos (good_pos h.2.1)
def G4:∀a b:Kd,deq a.d b.d=AB (a=b):=by
 intro a
 induction a with
 |non=>intro b;cases b<;>simp[Kd.d,V7,E1,J9,u6]
 |one=>intro b;cases b<;>simp[Kd.d,V7,E1,J9,u6]
 |eith a c f e=>intro b;cases b<;>simp[Kd.d,V7,E1,J9,u6,f,e]
 |both a c f e=>intro b;cases b<;>simp[Kd.d,V7,E1,J9,u6,f,e]
 |way a c f e=>intro b;cases b<;>simp[Kd.d,V7,E1,J9,u6,f,e]
def O7{d}{r}:D.pures (d::r)=(d.pure&&D.pures r):=rfl
def R0:D.pures []=AC:=rfl
def Y4{r:List D}:(D.tup r).pure=D.pures r:=rfl
theorem y3:∀k:Kd,k.d.pure=AC
 |.non=>by simp only[Kd.d,Y4,O7,R0,E4,DI]
 |.one=>by simp only[Kd.d,Y4,O7,R0,E4,DI]
 |.eith a b=>by simp only[Kd.d,Y4,O7,R0,E4,y3 a,y3 b,DI]
 |.both a b=>by simp only[Kd.d,Y4,O7,R0,E4,y3 a,y3 b,DI]
 |.way a b=>by simp only[Kd.d,Y4,O7,R0,E4,y3 a,y3 b,DI]
theorem an0:∀l:List Kd,D.pures (l.map Kd.d)=AC
 |[]=>rfl
 |k::r=>by rw[Ag,O7,y3,an0 r];rfl
abbrev F6:List D->Nat
 |[]=>0
 |d::r=>max (o4 d) (F6 r)
theorem a81:∀l,CS (D.pys l)=F6 l
 |[]=>rfl
 |d::r=>by show max (GB d.py) (CS (D.pys r))=_;rw[a81 r];rfl
def P7{l}:o4 (.tup l)=F6 l+1:=by
 show GB (.tuple (D.pys l))=_;rw[GB,a81]
theorem C5:∀k:Kd,o4 k.d=k.nest+1
 |.non=>by rfl
 |.one=>by rfl
 |.eith a b=>by simp only[Kd.d,P7,F6,E6,Kd.nest,C5 a,C5 b,MG];lia
 |.both a b=>by simp only[Kd.d,P7,F6,E6,Kd.nest,C5 a,C5 b,MG];lia
 |.way a b=>by simp only[Kd.d,P7,F6,E6,Kd.nest,C5 a,C5 b,MG];lia
inductive Pg where
 |name (n:Nat)|star|pair (t u:Pg)|first (t:Pg)|second (t:Pg)|left (b:Kd) (t:Pg)|right (a:Kd) (t:Pg)
 |case (t u v:Pg)|way (a:Kd) (t:Pg)|give (t u:Pg)|lets (t u:Pg)|never (k:Kd) (t:Pg)
 deriving DecidableEq
abbrev Pg.d:Pg->D
 |.name n=>.tup [.str "name",.int n]
 |.star=>.tup [.str "star"]
 |.pair t u=>.tup [.str "pair",t.d,u.d]
 |.first t=>.tup [.str "first",t.d]
 |.second t=>.tup [.str "second",t.d]
 |.left b t=>.tup [.str "left",b.d,t.d]
 |.right a t=>.tup [.str "right",a.d,t.d]
 |.case t u v=>.tup [.str "case",t.d,u.d,v.d]
 |.way a t=>.tup [.str "way",a.d,t.d]
 |.give t u=>.tup [.str "give",t.d,u.d]
 |.lets t u=>.tup [.str "let",t.d,u.d]
 |.never k t=>.tup [.str "never",k.d,t.d]
abbrev Pg.kind(Γ:List Kd):Pg->Option Kd
 |.name n=>Γ[n]?
 |.star=>AA .one
 |.pair t u=>match t.kind Γ,u.kind Γ with
  |some a,AA b=>AA (.both a b)
  |_,_=>AE
 |.first t=>match t.kind Γ with
  |some (.both a _)=>AA a
  |_=>AE
 |.second t=>match t.kind Γ with
  |some (.both _ b)=>AA b
  |_=>AE
 |.left b t=>match t.kind Γ with
  |some a=>AA (.eith a b)
  |_=>AE
 |.right a t=>match t.kind Γ with
  |some b=>AA (.eith a b)
  |_=>AE
 |.case t u v=>match t.kind Γ with
  |some (.eith a b)=>match u.kind (a::Γ),v.kind (b::Γ)with
   |some k,AA l=>if k=l then AA k else AE
   |_,_=>AE
  |_=>AE
 |.way a t=>match t.kind (a::Γ)with
  |some b=>AA (.way a b)
  |_=>AE
 |.give t u=>match t.kind Γ,u.kind Γ with
  |some (.way a b),AA c=>if a=c then AA b else AE
  |_,_=>AE
 |.lets t u=>match t.kind Γ with
  |some a=>u.kind (a::Γ)
  |_=>AE
 |.never k t=>match t.kind Γ with
  |some .non=>AA k
  |_=>AE
abbrev Pg.kids:Pg->List Pg
 |.name _=>[]|.star=>[]
 |.pair t u=>[t,u]|.first t=>[t]|.second t=>[t]|.left _ t=>[t]|.right _ t=>[t]
 |.case t u v=>[t,u,v]|.way _ t=>[t]|.give t u=>[t,u]|.lets t u=>[t,u]|.never _ t=>[t]
abbrev Pg.hgt:Pg->Nat
 |.name _=>1|.star=>1
 |.pair t u=>1+max t.hgt u.hgt|.first t=>1+t.hgt|.second t=>1+t.hgt|.left _ t=>1+t.hgt|.right _ t=>1+t.hgt
 |.case t u v=>1+max t.hgt (max u.hgt v.hgt)|.way _ t=>1+t.hgt|.give t u=>1+max t.hgt u.hgt|.lets t u=>1+max t.hgt u.hgt|.never _ t=>1+t.hgt
abbrev Pg.parts:Pg->Nat
 |.name _=>1|.star=>1
 |.pair t u=>1+t.parts+u.parts|.first t=>1+t.parts|.second t=>1+t.parts|.left _ t=>1+t.parts|.right _ t=>1+t.parts
 |.case t u v=>1+t.parts+u.parts+v.parts|.way _ t=>1+t.parts|.give t u=>1+t.parts+u.parts|.lets t u=>1+t.parts+u.parts|.never _ t=>1+t.parts
abbrev Pg.kn(m:Nat):Pg->Prop
 |.name _=>True|.star=>True
 |.pair t u=>t.kn m/\u.kn m|.first t=>t.kn m|.second t=>t.kn m|.left b t=>b.nest<=m/\t.kn m|.right a t=>a.nest<=m/\t.kn m
 |.case t u v=>t.kn m/\u.kn m/\v.kn m|.way a t=>a.nest<=m/\t.kn m|.give t u=>t.kn m/\u.kn m|.lets t u=>t.kn m/\u.kn m|.never k t=>k.nest<=m/\t.kn m
inductive Kn:List Kd->Pg->Kd->Prop
 |name {Γ n k}:Γ[n]?=AA k->Kn Γ (.name n) k
 |star {Γ}:Kn Γ .star .one
 |pair {Γ t u a b}:Kn Γ t a->Kn Γ u b->Kn Γ (.pair t u) (.both a b)
 |first {Γ t a b}:Kn Γ t (.both a b)->Kn Γ (.first t) a
 |second {Γ t a b}:Kn Γ t (.both a b)->Kn Γ (.second t) b
 |left {Γ t a b}:Kn Γ t a->Kn Γ (.left b t) (.eith a b)
 |right {Γ t a b}:Kn Γ t b->Kn Γ (.right a t) (.eith a b)
 |case {Γ t u v a b c}:Kn Γ t (.eith a b)->Kn (a::Γ) u c->Kn (b::Γ) v c->Kn Γ (.case t u v) c
 |way {Γ t a b}:Kn (a::Γ) t b->Kn Γ (.way a t) (.way a b)
 |give {Γ t u a b}:Kn Γ t (.way a b)->Kn Γ u a->Kn Γ (.give t u) b
 |lets {Γ t u a b}:Kn Γ t a->Kn (a::Γ) u b->Kn Γ (.lets t u) b
 |never {Γ t b}:Kn Γ t .non->Kn Γ (.never b t) b
theorem Kn.kind{Γ}{p}{k}(h:Kn Γ p k):p.kind Γ=AA k:=by
 induction h with
 |name h=>exact h
 |star=>rfl
 |pair _ _ i j=>unfold Pg.kind;rw[i,j]
 |give _ _ i j=>unfold Pg.kind;rw[i,j];exact if_pos rfl
 |first _ i|second _ i|left _ i|right _ i|way _ i|never _ i=>unfold Pg.kind;rw[i]
 |lets _ _ i j=>unfold Pg.kind;rw[i];exact j
 |case _ _ _ i j l=>unfold Pg.kind;rw[i];show(match Pg.kind _ _,Pg.kind _ _ with|some k,AA l=>if k=l then AA k else AE|_,_=>AE)=_;rw[j,l];exact if_pos rfl
def W9:∀{p:Pg}{Γ:List Kd}{k:Kd},p.kind Γ=AA k->Kn Γ p k:=by
 intro p
 induction p with
 |name n=>exact λh=>.name h
 |star=>intro Γ k h;cases h;exact .star
 |pair t u i j=>
  intro Γ k h;unfold Pg.kind at h;cases e:t.kind Γ with
  |none=>rw[e]at h;cases h
  |some a=>cases f:u.kind Γ with
   |none=>rw[e,f]at h;cases h
   |some b=>rw[e,f]at h;cases h;exact .pair (i e) (j f)
 |first t i=>
  intro Γ k h;unfold Pg.kind at h;cases e:t.kind Γ with
  |none=>rw[e]at h;cases h
  |some a=>rw[e]at h;cases a<;>cases h;exact .first (i e)
 |second t i=>
  intro Γ k h;unfold Pg.kind at h;cases e:t.kind Γ with
  |none=>rw[e]at h;cases h
  |some a=>rw[e]at h;cases a<;>cases h;exact .second (i e)
 |left b t i=>
  intro Γ k h;unfold Pg.kind at h;cases e:t.kind Γ with
  |none=>rw[e]at h;cases h
  |some a=>rw[e]at h;cases h;exact .left (i e)
 |right b t i=>
  intro Γ k h;unfold Pg.kind at h;cases e:t.kind Γ with
  |none=>rw[e]at h;cases h
  |some a=>rw[e]at h;cases h;exact .right (i e)
 |case t u v i j l=>
  intro Γ k h;unfold Pg.kind at h;cases e:t.kind Γ with
  |none=>rw[e]at h;cases h
  |some a=>
   rw[e]at h;cases a<;>first|cases h;done|skip
   rename_i a b;replace h:(match u.kind (a::Γ),v.kind (b::Γ)with|some k,AA l=>if k=l then AA k else AE|_,_=>AE)=AA k:=h;cases f:u.kind (a::Γ)with
   |none=>rw[f]at h;cases h
   |some c=>cases g:v.kind (b::Γ)with
    |none=>rw[f,g]at h;cases h
    |some d=>
     rw[f,g]at h
     by_cases z:c=d
     ·cases(if_pos z).symm.trans h;cases z;exact .case (i e) (j f) (l g)
     ·cases(if_neg z).symm.trans h
 |way a t i=>
  intro Γ k h;unfold Pg.kind at h;cases e:t.kind (a::Γ)with
  |none=>rw[e]at h;cases h
  |some a=>rw[e]at h;cases h;exact .way (i e)
 |give t u i j=>
  intro Γ k h;unfold Pg.kind at h;cases e:t.kind Γ with
  |none=>rw[e]at h;cases h
  |some a=>cases f:u.kind Γ with
   |none=>rw[e,f]at h;cases a<;>cases h
   |some c=>
    rw[e,f]at h;cases a<;>first|cases h;done|skip
    rename_i a b
    by_cases z:a=c
    ·cases(if_pos z).symm.trans h;cases z;exact .give (i e) (j f)
    ·cases(if_neg z).symm.trans h
 |lets t u i j=>
  intro Γ k h;unfold Pg.kind at h;cases e:t.kind Γ with
  |none=>rw[e]at h;cases h
  |some a=>rw[e]at h;exact .lets (i e) (j h)
 |never b t i=>
  intro Γ k h;unfold Pg.kind at h;cases e:t.kind Γ with
  |none=>rw[e]at h;cases h
  |some a=>rw[e]at h;cases a<;>cases h;exact .never (i e)
end
end Ek
namespace Ek
open PySem
abbrev al8:Def:=⟨2,["_law_cell","_law_k","_law_number"],
 (.cons (.set 2 (.bin .Mod (.bin .Add (.bin .Add (.bin .Mult (.bin .Mod (.v 0) (.int 2147483629)) (.int 48271)) (.bin .Mult (.int 7919) (.v 1))) (.int 13)) (.int 2147483629)))
 (.cons (.set 2 (.bin .Mod (.bin .Add (.bin .Mult (.v 2) (.bin .Add (.bin .FloorDiv (.v 2) (.int 5)) (.v 1))) (.bin .Mult (.int 16807) (.v 1))) (.int 2147483587)))
 (.cons (.ret (.bin .Mod (.bin .Add (.bin .Mult (.v 2) (.int 69621)) (.bin .FloorDiv (.v 2) (.int 127))) (.int 2147483647)))
 .nil)))⟩
abbrev J6:Def:=⟨1,["_law_script","_law_deck_here","_law_k","_law_cell","_law_number","_law_turn"],
 (.cons (.set 1 (.lst .nil))
 (.cons (.for (.tup [2,3]) (.enum (.sl (.v 0) .non (.int 63)))
   (.cons (.set 4 (.bin .Mod (.abs (.v 3)) (.bin .Pow (.int 2147483647) (.int 60))))
  (.cons (.iff (.cmp .Lt (.v 4) (.bin .Pow (.int 10) (.int 18)))
    (.cons (.ex (.ext (.v 1) (.comp ["_law_number","_law_k","_law_j"] [4,2] 1 (.n 2) (.rng (.int 7)) .non (.call "_law_mixed" (.cons (.v 0) (.cons (.bin .Add (.bin .Mult (.int 7) (.v 1)) (.v 2)) .nil))))))
   (.cons (.set 4 (.int 0))
   .nil))
    .nil)
  (.cons (.for (.n 5) (.rng (.int 60))
    (.cons (.iff (.cmp .Gt (.v 4) (.int 0))
     (.cons (.ex (.app (.v 1) (.bin .Mod (.v 4) (.int 2147483647))))
    (.cons (.set 4 (.bin .FloorDiv (.v 4) (.int 2147483647)))
    .nil))
     .nil)
   .nil))
  .nil))))
 (.cons (.for (.n 2) (.rng2 (.len (.v 1)) (.int 150))
   (.cons (.ex (.app (.v 1) (.call "_law_mixed" (.cons (.sum (.sl (.v 0) .non (.int 63))) (.cons (.v 2) .nil)))))
  .nil))
 (.cons (.ret (.sl (.v 1) .non (.int 900)))
 .nil))))⟩
abbrev am9:Def:=⟨2,["_law_deck_here","_law_many"],
 (.cons (.iff (.cmp .Eq (.len (.v 0)) (.int 0))
   (.cons (.ret (.int 0))
  .nil)
   .nil)
 (.cons (.ret (.bin .Mod (.popAt (.v 0) (.int 0)) (.v 1)))
 .nil))⟩
abbrev am0:Def:=⟨2,["_law_number","_law_times","_law_found","_law_turn"],
 (.cons (.set 2 (.int 1))
 (.cons (.for (.n 3) (.rng (.v 1))
   (.cons (.set 2 (.bin .Mult (.v 2) (.v 0)))
  .nil))
 (.cons (.ret (.v 2))
 .nil)))⟩
abbrev ae2:Def:=⟨1,["_law_kind_here","_law_one","_law_other"],
 (.cons (.iff (.cmp .Eq (.len (.v 0)) (.int 1))
   (.cons (.ret (.toInt (.cmp .Eq (.ix (.v 0) (.int 0)) (.str "one"))))
  .nil)
   .nil)
 (.cons (.set 1 (.call "_law_count" (.cons (.ix (.v 0) (.int 1)) .nil)))
 (.cons (.set 2 (.call "_law_count" (.cons (.ix (.v 0) (.int 2)) .nil)))
 (.cons (.ret (.dsel ["either","both","way"] (.cons (.bin .Add (.v 1) (.v 2)) (.cons (.bin .Mult (.v 1) (.v 2)) (.cons (.call "_law_power" (.cons (.v 2) (.cons (.v 1) .nil))) .nil))) (.ix (.v 0) (.int 0))))
 .nil))))⟩
abbrev M9:Def:=⟨3,["_law_deck_here","_law_deep","_law_most","_law_way","_law_word","_law_one","_law_other"],
 (.cons (.set 3 (.call "_law_next" (.cons (.v 0) (.cons (.ix (.lst (.cons (.int 1) (.cons (.int 6) .nil))) (.toInt (.cmp .Gt (.v 1) (.int 0)))) .nil))))
 (.cons (.iff (.or (.cmp .Eq (.v 3) (.int 0)) (.cmp .Eq (.v 3) (.int 5)))
   (.cons (.ret (.ix (.lst (.cons (.tup (.cons (.str "one") .nil)) (.cons (.tup (.cons (.str "either") (.cons (.tup (.cons (.str "one") .nil)) (.cons (.tup (.cons (.str "one") .nil)) .nil)))) .nil))) (.toInt (.and (.cmp .Eq (.v 3) (.int 5)) (.cmp .Gt (.v 2) (.int 1))))))
  .nil)
   .nil)
 (.cons (.set 4 (.ix (.lst (.cons (.str "either") (.cons (.str "both") (.cons (.str "way") (.cons (.str "either") .nil))))) (.bin .Sub (.v 3) (.int 1))))
 (.cons (.set 5 (.call "_law_kind" (.cons (.v 0) (.cons (.bin .Sub (.v 1) (.int 1)) (.cons (.v 2) .nil)))))
 (.cons (.set 6 (.call "_law_kind" (.cons (.v 0) (.cons (.bin .Sub (.v 1) (.int 1)) (.cons (.v 2) .nil)))))
 (.cons (.iff (.and (.cmp .NotEq (.v 4) (.str "both")) (.cmp .Eq (.call "_law_next" (.cons (.v 0) (.cons (.int 6) .nil))) (.int 1)))
   (.cons (.set 5 (.tup (.cons (.str "none") .nil)))
  .nil)
   (.cons (.iff (.and (.cmp .Eq (.v 4) (.str "either")) (.cmp .Eq (.call "_law_next" (.cons (.v 0) (.cons (.int 6) .nil))) (.int 1)))
    (.cons (.set 6 (.tup (.cons (.str "none") .nil)))
   .nil)
    .nil)
  .nil))
 (.cons (.iff (.and (.cmp .Eq (.v 4) (.str "way")) (.cmp .Gt (.call "_law_count" (.cons (.v 5) .nil)) (.int 6)))
   (.cons (.set 5 (.tup (.cons (.str "one") .nil)))
  .nil)
   .nil)
 (.cons (.iff (.cmp .Gt (.call "_law_count" (.cons (.tup (.cons (.v 4) (.cons (.v 5) (.cons (.v 6) .nil)))) .nil)) (.v 2))
   (.cons (.ret (.tup (.cons (.str "one") .nil)))
  .nil)
   .nil)
 (.cons (.ret (.tup (.cons (.v 4) (.cons (.v 5) (.cons (.v 6) .nil)))))
 .nil)))))))))⟩
abbrev V2:Def:=⟨2,["_law_kind_here","_law_names_here","_law_word","_law_body"],
 (.cons (.set 2 (.ix (.v 0) (.int 0)))
 (.cons (.iff (.cmp .Eq (.v 2) (.str "none"))
   (.cons (.ret (.tup (.cons (.str "name") (.cons (.index (.v 1) (.v 0)) .nil))))
  .nil)
   .nil)
 (.cons (.iff (.cmp .Eq (.v 2) (.str "one"))
   (.cons (.ret (.tup (.cons (.str "star") .nil)))
  .nil)
   .nil)
 (.cons (.iff (.cmp .Eq (.v 2) (.str "both"))
   (.cons (.ret (.tup (.cons (.str "pair") (.cons (.call "_law_least" (.cons (.ix (.v 0) (.int 1)) (.cons (.v 1) .nil))) (.cons (.call "_law_least" (.cons (.ix (.v 0) (.int 2)) (.cons (.v 1) .nil))) .nil)))))
  .nil)
   .nil)
 (.cons (.iff (.cmp .Eq (.v 2) (.str "way"))
   (.cons (.set 3 (.bin .Add (.tup (.cons (.ix (.v 0) (.int 1)) .nil)) (.v 1)))
  (.cons (.ret (.tup (.cons (.str "way") (.cons (.ix (.v 0) (.int 1)) (.cons (.call "_law_least" (.cons (.ix (.v 0) (.int 2)) (.cons (.v 3) .nil))) .nil)))))
  .nil))
   .nil)
 (.cons (.iff (.cmp .Gt (.call "_law_count" (.cons (.ix (.v 0) (.int 1)) .nil)) (.int 0))
   (.cons (.ret (.tup (.cons (.str "left") (.cons (.ix (.v 0) (.int 2)) (.cons (.call "_law_least" (.cons (.ix (.v 0) (.int 1)) (.cons (.v 1) .nil))) .nil)))))
  .nil)
   .nil)
 (.cons (.ret (.tup (.cons (.str "right") (.cons (.ix (.v 0) (.int 1)) (.cons (.call "_law_least" (.cons (.ix (.v 0) (.int 2)) (.cons (.v 1) .nil))) .nil)))))
 .nil)))))))⟩
abbrev O8:Def:=⟨5,["_law_deck_here","_law_kind_here","_law_names_here","_law_room","_law_deep","_law_word","_law_one","_law_side","_law_body"],
 (.cons (.set 5 (.ix (.v 1) (.int 0)))
 (.cons (.iff (.or (.cmp .Eq (.v 5) (.str "none")) (.cmp .Eq (.v 5) (.str "one")))
   (.cons (.ret (.call "_law_least" (.cons (.v 1) (.cons (.v 2) .nil))))
  .nil)
   .nil)
 (.cons (.iff (.cmp .Eq (.v 5) (.str "both"))
   (.cons (.set 6 (.call "_law_grown" (.cons (.v 0) (.cons (.ix (.v 1) (.int 1)) (.cons (.v 2) (.cons (.v 3) (.cons (.bin .Sub (.v 4) (.int 1)) .nil)))))))
  (.cons (.ret (.tup (.cons (.str "pair") (.cons (.v 6) (.cons (.call "_law_grown" (.cons (.v 0) (.cons (.ix (.v 1) (.int 2)) (.cons (.v 2) (.cons (.v 3) (.cons (.bin .Sub (.v 4) (.int 1)) .nil)))))) .nil)))))
  .nil))
   .nil)
 (.cons (.iff (.cmp .Eq (.v 5) (.str "way"))
   (.cons (.ret (.tup (.cons (.str "way") (.cons (.ix (.v 1) (.int 1)) (.cons (.call "_law_grown" (.cons (.v 0) (.cons (.ix (.v 1) (.int 2)) (.cons (.bin .Add (.tup (.cons (.ix (.v 1) (.int 1)) .nil)) (.v 2)) (.cons (.v 3) (.cons (.bin .Sub (.v 4) (.int 1)) .nil)))))) .nil)))))
  .nil)
   .nil)
 (.cons (.set 7 (.call "_law_next" (.cons (.v 0) (.cons (.int 2) .nil))))
 (.cons (.iff (.cmp .Eq (.call "_law_count" (.cons (.ix (.v 1) (.bin .Add (.int 1) (.v 7))) .nil)) (.int 0))
   (.cons (.set 7 (.bin .Sub (.int 1) (.v 7)))
  .nil)
   .nil)
 (.cons (.set 8 (.call "_law_grown" (.cons (.v 0) (.cons (.ix (.v 1) (.bin .Add (.int 1) (.v 7))) (.cons (.v 2) (.cons (.v 3) (.cons (.bin .Sub (.v 4) (.int 1)) .nil)))))))
 (.cons (.ret (.tup (.cons (.ix (.lst (.cons (.str "left") (.cons (.str "right") .nil))) (.v 7)) (.cons (.ix (.v 1) (.bin .Sub (.int 2) (.v 7))) (.cons (.v 8) .nil)))))
 .nil))))))))⟩
abbrev ae6:Def:=⟨1,["_law_kind_here"],
 (.cons (.iff (.cmp .Eq (.len (.v 0)) (.int 1))
   (.cons (.ret (.int 0))
  .nil)
   .nil)
 (.cons (.ret (.bin .Add (.int 1) (.max (.call "_law_nest" (.cons (.ix (.v 0) (.int 1)) .nil)) (.call "_law_nest" (.cons (.ix (.v 0) (.int 2)) .nil)))))
 .nil))⟩
abbrev Q9:Def:=⟨5,["_law_deck_here","_law_kind_here","_law_names_here","_law_room","_law_deep","_law_other","_law_way","_law_known","_law_more","_law_one"],
 (.cons (.set 5 (.call "_law_kind" (.cons (.v 0) (.cons (.int 1) (.cons (.int 4) .nil)))))
 (.cons (.iff (.or (.cmp .Gt (.call "_law_count" (.cons (.tup (.cons (.str "both") (.cons (.v 1) (.cons (.v 5) .nil)))) .nil)) (.int 100)) (.cmp .Gt (.call "_law_count" (.cons (.tup (.cons (.str "way") (.cons (.v 5) (.cons (.v 1) .nil)))) .nil)) (.int 100)))
   (.cons (.set 5 (.tup (.cons (.str "one") .nil)))
  .nil)
   .nil)
 (.cons (.set 6 (.call "_law_next" (.cons (.v 0) (.cons (.int 6) .nil))))
 (.cons (.iff (.cmp .Eq (.v 6) (.int 0))
   (.cons (.ret (.tup (.cons (.str "first") (.cons (.call "_law_grown" (.cons (.v 0) (.cons (.tup (.cons (.str "both") (.cons (.v 1) (.cons (.v 5) .nil)))) (.cons (.v 2) (.cons (.v 3) (.cons (.bin .Sub (.v 4) (.int 1)) .nil)))))) .nil))))
  .nil)
   .nil)
 (.cons (.iff (.cmp .Eq (.v 6) (.int 1))
   (.cons (.ret (.tup (.cons (.str "second") (.cons (.call "_law_grown" (.cons (.v 0) (.cons (.tup (.cons (.str "both") (.cons (.v 5) (.cons (.v 1) .nil)))) (.cons (.v 2) (.cons (.v 3) (.cons (.bin .Sub (.v 4) (.int 1)) .nil)))))) .nil))))
  .nil)
   .nil)
 (.cons (.iff (.cmp .Eq (.v 6) (.int 2))
   (.cons (.set 7 (.call "_law_grown" (.cons (.v 0) (.cons (.tup (.cons (.str "way") (.cons (.v 5) (.cons (.v 1) .nil)))) (.cons (.v 2) (.cons (.v 3) (.cons (.bin .Sub (.v 4) (.int 1)) .nil)))))))
  (.cons (.ret (.tup (.cons (.str "give") (.cons (.v 7) (.cons (.call "_law_grown" (.cons (.v 0) (.cons (.v 5) (.cons (.v 2) (.cons (.v 3) (.cons (.bin .Sub (.v 4) (.int 1)) .nil)))))) .nil)))))
  .nil))
   .nil)
 (.cons (.iff (.cmp .Eq (.v 6) (.int 3))
   (.cons (.set 7 (.call "_law_grown" (.cons (.v 0) (.cons (.v 5) (.cons (.v 2) (.cons (.v 3) (.cons (.bin .Sub (.v 4) (.int 1)) .nil)))))))
  (.cons (.ret (.tup (.cons (.str "let") (.cons (.v 7) (.cons (.call "_law_grown" (.cons (.v 0) (.cons (.v 1) (.cons (.bin .Add (.tup (.cons (.v 5) .nil)) (.v 2)) (.cons (.v 3) (.cons (.bin .Sub (.v 4) (.int 1)) .nil)))))) .nil)))))
  .nil))
   .nil)
 (.cons (.iff (.and (.cmp .Eq (.v 6) (.int 4)) (.cmp .In (.tup (.cons (.str "none") .nil)) (.v 2)))
   (.cons (.ret (.tup (.cons (.str "never") (.cons (.v 1) (.cons (.tup (.cons (.str "name") (.cons (.index (.v 2) (.tup (.cons (.str "none") .nil))) .nil))) .nil)))))
  .nil)
   .nil)
 (.cons (.set 8 (.call "_law_kind" (.cons (.v 0) (.cons (.int 1) (.cons (.int 4) .nil)))))
 (.cons (.set 7 (.call "_law_grown" (.cons (.v 0) (.cons (.tup (.cons (.str "either") (.cons (.v 5) (.cons (.v 8) .nil)))) (.cons (.v 2) (.cons (.v 3) (.cons (.bin .Sub (.v 4) (.int 1)) .nil)))))))
 (.cons (.set 9 (.call "_law_grown" (.cons (.v 0) (.cons (.v 1) (.cons (.bin .Add (.tup (.cons (.v 5) .nil)) (.v 2)) (.cons (.v 3) (.cons (.bin .Sub (.v 4) (.int 1)) .nil)))))))
 (.cons (.ret (.tup (.cons (.str "case") (.cons (.v 7) (.cons (.v 9) (.cons (.call "_law_grown" (.cons (.v 0) (.cons (.v 1) (.cons (.bin .Add (.tup (.cons (.v 8) .nil)) (.v 2)) (.cons (.v 3) (.cons (.bin .Sub (.v 4) (.int 1)) .nil)))))) .nil))))))
 .nil))))))))))))⟩
abbrev V3:Def:=⟨5,["_law_deck_here","_law_kind_here","_law_names_here","_law_room","_law_deep","_law_some","_law_way"],
 (.cons (.put (.v 3) (.int 0) (.bin .Sub (.ix (.v 3) (.int 0)) (.int 1)))
 (.cons (.set 5 (.comp ["_law_kind_here","_law_k","_law_name"] [1] 2 (.tup [1,2]) (.enum (.v 2)) (.cmp .Eq (.v 2) (.v 0)) (.v 1)))
 (.cons (.set 6 (.call "_law_next" (.cons (.v 0) (.cons (.int 8) .nil))))
 (.cons (.iff (.and (.cmp .Gt (.len (.v 5)) (.int 0)) (.cmp .Lt (.v 6) (.int 3)))
   (.cons (.ret (.tup (.cons (.str "name") (.cons (.ix (.v 5) (.call "_law_next" (.cons (.v 0) (.cons (.len (.v 5)) .nil)))) .nil))))
  .nil)
   .nil)
 (.cons (.iff (.or (.cmp .LtE (.ix (.v 3) (.int 0)) (.int 0)) (.or (.cmp .LtE (.v 4) (.int 0)) (.cmp .Eq (.v 1) (.tup (.cons (.str "none") .nil)))))
   (.cons (.ret (.call "_law_least" (.cons (.v 1) (.cons (.v 2) .nil))))
  .nil)
   .nil)
 (.cons (.iff (.or (.cmp .Lt (.v 6) (.int 6)) (.cmp .Gt (.call "_law_nest" (.cons (.v 1) .nil)) (.int 4)))
   (.cons (.ret (.call "_law_made" (.cons (.v 0) (.cons (.v 1) (.cons (.v 2) (.cons (.v 3) (.cons (.v 4) .nil)))))))
  .nil)
   .nil)
 (.cons (.ret (.call "_law_asked" (.cons (.v 0) (.cons (.v 1) (.cons (.v 2) (.cons (.v 3) (.cons (.v 4) .nil)))))))
 .nil)))))))⟩
abbrev am1:Def:=⟨1,["_law_program_here","_law_word"],
 (.cons (.set 1 (.ix (.v 0) (.int 0)))
 (.cons (.iff (.cmp .Eq (.v 1) (.str "name"))
   (.cons (.ret (.tup .nil))
  .nil)
   .nil)
 (.cons (.ret (.sl (.v 0) (.bin .Add (.int 1) (.toInt (.cmp .In (.v 1) (.tup (.cons (.str "left") (.cons (.str "right") (.cons (.str "way") (.cons (.str "never") .nil)))))))) .non))
 .nil)))⟩
abbrev al9:Def:=⟨1,["_law_program_here"],
 (.cons (.ret (.bin .Add (.int 1) (.sum (.comp ["_law_piece"] [] 1 (.n 0) (.seq (.call "_law_inner" (.cons (.v 0) .nil))) .non (.call "_law_parts" (.cons (.v 0) .nil))))))
 .nil)⟩
abbrev al4:Def:=⟨4,["_law_deck_here","_law_kind_here","_law_names_here","_law_many","_law_found"],
 (.cons (.set 4 (.call "_law_grown" (.cons (.v 0) (.cons (.v 1) (.cons (.v 2) (.cons (.lst (.cons (.v 3) .nil)) (.cons (.int 8) .nil)))))))
 (.cons (.iff (.cmp .Gt (.call "_law_parts" (.cons (.v 4) .nil)) (.int 60))
   (.cons (.ret (.call "_law_least" (.cons (.v 1) (.cons (.v 2) .nil))))
  .nil)
   .nil)
 (.cons (.ret (.v 4))
 .nil)))⟩
abbrev J5:Def:=⟨3,["_law_deck_here","_law_most","_law_lines","_law_names_here","_law_many","_law_k","_law_kind_here"],
 (.cons (.set 3 (.tup .nil))
 (.cons (.set 4 (.int 1))
 (.cons (.for (.n 5) (.rng (.call "_law_next" (.cons (.v 0) (.cons (.bin .Add (.v 1) (.int 1)) .nil))))
   (.cons (.set 6 (.call "_law_kind" (.cons (.v 0) (.cons (.int 2) (.cons (.int 16) .nil)))))
  (.cons (.iff (.cmp .Eq (.call "_law_next" (.cons (.v 0) (.cons (.int 12) .nil))) (.int 1))
    (.cons (.set 6 (.tup (.cons (.str "none") .nil)))
   .nil)
    .nil)
  (.cons (.iff (.cmp .LtE (.bin .Mult (.v 4) (.max (.int 1) (.call "_law_count" (.cons (.v 6) .nil)))) (.v 2))
    (.cons (.set 4 (.bin .Mult (.v 4) (.max (.int 1) (.call "_law_count" (.cons (.v 6) .nil)))))
   (.cons (.set 3 (.bin .Add (.v 3) (.tup (.cons (.v 6) .nil))))
   .nil))
    .nil)
  .nil))))
 (.cons (.ret (.v 3))
 .nil))))⟩
abbrev aj8:Def:=⟨3,["whole","parts_of","made","order","done","here","many"],
 (.cons (.set 3 (.call "order_of_few" (.cons (.v 0) (.cons (.v 1) .nil))))
 (.cons (.iff (.isN (.v 3))
   (.cons .dead
  .nil)
   .nil)
 (.cons (.set 4 (.lst .nil))
 (.cons (.for (.tup [5,6]) (.rev (.v 3))
   (.cons (.ex (.app (.v 4) (.callv 2 (.cons (.v 5) (.cons (.ite (.cmp .Gt (.v 6) (.int 0)) (.call "taken" (.cons (.v 4) (.cons (.v 6) .nil))) (.lst .nil)) .nil)))))
  .nil))
 (.cons (.ret (.ix (.v 4) (.int 0)))
 .nil)))))⟩
abbrev ak6:Def:=⟨2,["whole","parts_of","order","ahead","here","parts"],
 (.cons (.set 2 (.lst .nil))
 (.cons (.set 3 (.lst (.cons (.v 0) .nil)))
 (.cons (.while (.cmp .Gt (.len (.v 3)) (.int 0))
   (.cons (.set 4 (.pop (.v 3)))
  (.cons (.set 5 (.callv 1 (.cons (.v 4) .nil)))
  (.cons (.ex (.app (.v 2) (.tup (.cons (.v 4) (.cons (.len (.v 5)) .nil)))))
  (.cons (.ex (.ext (.v 3) (.v 5)))
  (.cons (.iff (.cmp .Gt (.len (.v 2)) (.gc "FEW"))
    (.cons (.ret .non)
   .nil)
    .nil)
  .nil))))))
 (.cons (.ret (.v 2))
 .nil))))⟩
abbrev aq4:Def:=⟨2,["done","many","parts","number"],
 (.cons (.set 2 (.lst .nil))
 (.cons (.for (.n 3) (.rng (.v 1))
   (.cons (.ex (.app (.v 2) (.pop (.v 0))))
  .nil))
 (.cons (.ex (.lrev (.v 2)))
 (.cons (.ret (.v 2))
 .nil))))⟩
abbrev aj4:Def:=⟨1,["self"],
 (.cons (.fldS (.v 0) "numbers" .dnt)
 (.cons (.fldS (.v 0) "stored" (.lst .nil))
 (.cons (.fldS (.v 0) "parts" (.lst .nil))
 (.cons (.fldS (.v 0) "waiting" (.lst .nil))
 .nil))))⟩
abbrev al6:Def:=⟨2,["self","one","made","!self","!"],
 (.cons (.dfn 2 2 ["here","numbers","self"] [0]
   (.cons (.ret (.meth (.v 2) "numbered" (.cons (.slw (.v 0) .non (.bin .Sub (.len (.v 0)) (.len (.v 1)))) (.cons (.tuple (.v 1)) .nil))))
  .nil))
 (.cons (.ret (.call "made_of_parts" (.cons (.v 1) (.cons (.gf "tuples_in") (.cons (.v 2) .nil)))))
 .nil))⟩
abbrev Y0:Def:=⟨3,["self","kind","deep"],
 (.cons (.iff (.cmp .Eq (.len (.v 1)) (.int 1))
   (.cons (.ret (.meth (.v 0) "numbered" (.cons (.v 1) (.cons (.tup .nil) .nil))))
  .nil)
   .nil)
 (.cons (.iff (.cmp .Eq (.v 2) (.int 0))
   (.cons (.ret (.meth (.v 0) "laid" (.cons (.v 1) .nil)))
  .nil)
   .nil)
 (.cons (.ret (.meth (.v 0) "built" (.cons (.ix (.v 1) (.int 0)) (.cons (.meth (.v 0) "laid_kind" (.cons (.ix (.v 1) (.int 1)) (.cons (.bin .Sub (.v 2) (.int 1)) .nil))) (.cons (.meth (.v 0) "laid_kind" (.cons (.ix (.v 1) (.int 2)) (.cons (.bin .Sub (.v 2) (.int 1)) .nil))) .nil)))))
 .nil)))⟩
abbrev al2:Def:=⟨4,["self","word","first","second"],
 (.cons (.ret (.meth (.v 0) "numbered" (.cons (.tup (.cons (.v 1) .nil)) (.cons (.tup (.cons (.v 2) (.cons (.v 3) .nil))) .nil))))
 .nil)⟩
abbrev aj7:Def:=⟨3,["self","front","numbers","key","number"],
 (.cons (.set 3 (.tup (.cons (.v 1) (.cons (.v 2) .nil))))
 (.cons (.set 4 (.dgt (.fld (.v 0) "numbers") (.v 3)))
 (.cons (.iff (.isN (.v 4))
   (.cons (.set 4 (.len (.fld (.v 0) "stored")))
  (.cons (.dput (.fld (.v 0) "numbers") (.v 3) (.v 4))
  (.cons (.ex (.app (.fld (.v 0) "stored") (.bin .Add (.v 1) (.tuple (.comp ["self","part"] [0] 1 (.n 1) (.seq (.v 2)) .non (.ix (.fld (.v 0) "stored") (.v 1)))))))
  (.cons (.ex (.app (.fld (.v 0) "parts") (.v 2)))
  .nil))))
   .nil)
 (.cons (.ret (.v 4))
 .nil))))⟩
abbrev ak4:Def:=⟨2,["self","kind"],
 (.cons (.ex (.app (.fld (.v 0) "waiting") (.tup (.cons (.v 1) (.cons .non .nil)))))
 (.cons (.ret (.neg (.len (.fld (.v 0) "waiting"))))
 .nil))⟩
abbrev aj6:Def:=⟨2,["self","number","waited"],
 (.cons (.iff (.cmp .GtE (.v 1) (.int 0))
   (.cons (.ret (.v 1))
  .nil)
   .nil)
 (.cons (.set 2 (.ix (.fld (.v 0) "waiting") (.bin .Sub (.neg (.int 1)) (.v 1))))
 (.cons (.iff (.isN (.ix (.v 2) (.int 1)))
   (.cons (.set 2 (.tup (.cons (.ix (.v 2) (.int 0)) (.cons (.methd (.v 0) "laid_kind" (.cons (.ix (.v 2) (.int 0)) .nil)) .nil))))
  (.cons (.put (.fld (.v 0) "waiting") (.bin .Sub (.neg (.int 1)) (.v 1)) (.v 2))
  .nil))
   .nil)
 (.cons (.ret (.ix (.v 2) (.int 1)))
 .nil))))⟩
abbrev aj5:Def:=⟨2,["self","number"],
 (.cons (.ret (.ix (.fld (.v 0) "stored") (.v 1)))
 .nil)⟩
abbrev ak1:Def:=⟨2,["self","number"],
 (.cons (.ret (.ix (.ix (.fld (.v 0) "stored") (.v 1)) (.int 0)))
 .nil)⟩
abbrev al0:Def:=⟨2,["self","number"],
 (.cons (.ret (.ix (.fld (.v 0) "parts") (.v 1)))
 .nil)⟩
abbrev ak0:Def:=⟨4,["self","program","inside","number"],
 (.cons (.fldS (.v 0) "program" (.v 1))
 (.cons (.fldS (.v 0) "inside" (.v 2))
 (.cons (.fldS (.v 0) "number" (.v 3))
 (.cons (.fldS (.v 0) "holders" (.int 0))
 (.cons (.fldS (.v 0) "ways" (.int 0))
 (.cons (.fldS (.v 0) "used" .non)
 (.cons (.fldS (.v 0) "kind" .non)
 .nil)))))))⟩
abbrev am3:Def:=⟨1,["one"],
 (.cons (.ret (.comp ["part"] [] 1 (.n 0) (.seq (.v 0)) (.isT "tuple" (.v 0)) (.v 0)))
 .nil)⟩
abbrev ar0:Def:=⟨1,["program"],
 (.cons (.ret (.list (.sl (.v 0) (.gsel "INNER_FROM" (.ix (.v 0) (.int 0))) .non)))
 .nil)⟩
abbrev al7:Def:=⟨2,["program","number"],
 (.cons (.ret (.ite (.cmp .In (.v 1) (.gget "UNDER_ONE_MORE" (.ix (.v 0) (.int 0)) (.tup .nil))) (.int 1) (.int 0)))
 .nil)⟩
abbrev aq2:Def:=⟨2,["program","nodes","made","!nodes","!"],
 (.cons (.dfn 2 2 ["here","inside","nodes","node","part"] [1]
   (.cons (.set 3 (.make "Node" (.cons (.v 0) (.cons (.v 1) (.cons (.len (.v 2)) .nil)))))
  (.cons (.ex (.app (.v 2) (.v 3)))
  (.cons (.for (.n 4) (.seq (.v 1))
    (.cons (.fldS (.v 4) "holders" (.bin .Add (.fld (.v 4) "holders") (.int 1)))
   (.cons (.fldS (.v 3) "ways" (.max (.fld (.v 3) "ways") (.fld (.v 4) "ways")))
   .nil)))
  (.cons (.iff (.cmp .Eq (.ix (.v 0) (.int 0)) (.str "way"))
    (.cons (.fldS (.v 3) "ways" (.bin .Add (.fld (.v 3) "ways") (.int 1)))
   .nil)
    .nil)
  (.cons (.ret (.v 3))
  .nil))))))
 (.cons (.ret (.call "made_of_parts" (.cons (.v 0) (.cons (.gf "inner") (.cons (.v 2) .nil)))))
 .nil))⟩
abbrev P2:Def:=⟨4,["node","known","named","made","begun","answers","before","here","number","key","answer"],
 (.cons (.set 4 (.lst (.cons (.v 0) .nil)))
 (.cons (.set 5 (.lst (.cons (.lst .nil) .nil)))
 (.cons (.set 6 .dnt)
 (.cons (.while (.bl AC)
   (.cons (.set 7 (.ix (.v 4) (.neg (.int 1))))
  (.cons (.set 8 (.len (.ix (.v 5) (.neg (.int 1)))))
  (.cons (.set 9 (.ite (.cmp .Gt (.fld (.v 7) "holders") (.int 1)) (.call "known_for" (.cons (.v 7) (.cons (.v 1) .nil))) .non))
  (.cons (.iff (.and (.din AC (.v 9) (.v 6)) (.cmp .Lt (.v 8) (.len (.fld (.v 7) "inside"))))
    (.cons (.iff (.cmp .Eq (.call "names_more" (.cons (.fld (.v 7) "program") (.cons (.v 8) .nil))) (.int 1))
     (.cons (.ex (.app (.v 1) (.callv 2 (.cons (.fld (.v 7) "program") (.cons (.ix (.v 5) (.neg (.int 1))) (.cons (.v 8) .nil))))))
    .nil)
     .nil)
   (.cons (.ex (.app (.v 4) (.ix (.fld (.v 7) "inside") (.v 8))))
   (.cons (.ex (.app (.v 5) (.lst .nil)))
   (.cons .cont
   .nil))))
    .nil)
  (.cons (.set 10 (.ite (.din AG (.v 9) (.v 6)) (.ix (.v 6) (.v 9)) (.callv 3 (.cons (.v 7) (.cons (.ix (.v 5) (.neg (.int 1))) (.cons (.v 1) .nil))))))
  (.cons (.iff (.notN (.v 9))
    (.cons (.dput (.v 6) (.v 9) (.v 10))
   .nil)
    .nil)
  (.cons (.ex (.pop (.v 4)))
  (.cons (.ex (.pop (.v 5)))
  (.cons (.iff (.cmp .Eq (.len (.v 4)) (.int 0))
    (.cons (.ret (.v 10))
   .nil)
    .nil)
  (.cons (.iff (.cmp .Eq (.call "names_more" (.cons (.fld (.ix (.v 4) (.neg (.int 1))) "program") (.cons (.len (.ix (.v 5) (.neg (.int 1)))) .nil))) (.int 1))
    (.cons (.ex (.pop (.v 1)))
   .nil)
    .nil)
  (.cons (.ex (.app (.ix (.v 5) (.neg (.int 1))) (.v 10)))
  .nil))))))))))))
 .nil))))⟩
abbrev an2:Def:=⟨2,["program","names","shelf"],
 (.cons (.set 2 (.make "Shelf" .nil))
 (.cons (.ret (.meth (.v 2) "tuple_at" (.cons (.call "shelved_kind" (.cons (.v 0) (.cons (.call "shelved_names" (.cons (.v 1) (.cons (.v 2) .nil))) (.cons (.v 2) .nil)))) .nil)))
 .nil))⟩
abbrev aj9:Def:=⟨2,["names","shelf"],
 (.cons (.ret (.comp ["shelf","kind"] [1] 1 (.n 1) (.revt (.v 0)) .non (.meth (.v 0) "put_by" (.cons (.v 1) .nil))))
 .nil)⟩
abbrev ak9:Def:=⟨3,["program","known","shelf"],
 (.cons (.ret (.call "kind_of_node" (.cons (.call "noded" (.cons (.v 0) (.cons (.lst .nil) .nil))) (.cons (.v 1) (.cons (.v 2) .nil)))))
 .nil)⟩
abbrev ak8:Def:=⟨3,["node","known","shelf","named","made","!shelf","!"],
 (.cons (.dfn 3 3 ["here","kinds","number","shelf"] [2]
   (.cons (.ret (.call "new_name" (.cons (.v 0) (.cons (.v 1) (.cons (.v 2) (.cons (.v 3) .nil))))))
  .nil))
 (.cons (.dfn 4 3 ["here","kinds","known_here","shelf","kind"] [2]
   (.cons (.set 4 (.call "kind_by_parts" (.cons (.fld (.v 0) "program") (.cons (.v 1) (.cons (.v 2) (.cons (.v 3) .nil))))))
  (.cons (.fldS (.v 0) "kind" (.ite (.or (.isN (.fld (.v 0) "kind")) (.cmp .Eq (.fld (.v 0) "kind") (.v 4))) (.v 4) (.neg (.int 1))))
  (.cons (.ret (.v 4))
  .nil))))
 (.cons (.ret (.call "folded" (.cons (.v 0) (.cons (.v 1) (.cons (.v 3) (.cons (.v 4) .nil))))))
 .nil)))⟩
abbrev ad6:Def:=⟨4,["program","kinds","known","shelf"],
 (.cons (.ret (.callx (.gsel "BY_WORD" (.ix (.v 0) (.int 0))) (.cons (.v 0) (.cons (.v 1) (.cons (.v 2) (.cons (.v 3) .nil))))))
 .nil)⟩
abbrev ae4:Def:=⟨4,["program","kinds","number","shelf"],
 (.cons (.iff (.cmp .Eq (.ix (.v 0) (.int 0)) (.str "way"))
   (.cons (.ret (.methd (.v 3) "laid_kind" (.cons (.ix (.v 0) (.int 1)) .nil)))
  .nil)
   .nil)
 (.cons (.iff (.cmp .Eq (.ix (.v 0) (.int 0)) (.str "let"))
   (.cons (.ret (.ix (.v 1) (.int 0)))
  .nil)
   .nil)
 (.cons (.ret (.ix (.call "halves_of" (.cons (.str "either") (.cons (.ix (.v 1) (.int 0)) (.cons (.v 3) .nil)))) (.bin .Sub (.v 2) (.int 1))))
 .nil)))⟩
abbrev ae1:Def:=⟨3,["word","kind","shelf"],
 (.cons (.iff (.cmp .NotEq (.meth (.v 2) "word_at" (.cons (.v 1) .nil)) (.v 0))
   (.cons .raise
  .nil)
   .nil)
 (.cons (.ret (.meth (.v 2) "within" (.cons (.v 1) .nil)))
 .nil))⟩
abbrev ae0:Def:=⟨4,["program","kinds","known","shelf","number"],
 (.cons (.set 4 (.ix (.v 0) (.int 1)))
 (.cons (.iff (.or (.cmp .Lt (.v 4) (.int 0)) (.cmp .GtE (.v 4) (.len (.v 2))))
   (.cons .raise
  .nil)
   .nil)
 (.cons (.ret (.meth (.v 3) "taken_up" (.cons (.ix (.v 2) (.bin .Sub (.bin .Sub (.len (.v 2)) (.int 1)) (.v 4))) .nil)))
 .nil)))⟩
abbrev ak7:Def:=⟨4,["program","kinds","known","shelf"],
 (.cons (.ret (.meth (.v 3) "numbered" (.cons (.tup (.cons (.str "one") .nil)) (.cons (.tup .nil) .nil))))
 .nil)⟩
abbrev ak5:Def:=⟨4,["program","kinds","known","shelf"],
 (.cons (.ret (.meth (.v 3) "built" (.cons (.str "both") (.cons (.ix (.v 1) (.int 0)) (.cons (.ix (.v 1) (.int 1)) .nil)))))
 .nil)⟩
abbrev ad5:Def:=⟨4,["program","kinds","known","shelf"],
 (.cons (.ret (.ix (.call "halves_of" (.cons (.str "both") (.cons (.ix (.v 1) (.int 0)) (.cons (.v 3) .nil)))) (.int 0)))
 .nil)⟩
abbrev ad3:Def:=⟨4,["program","kinds","known","shelf"],
 (.cons (.ret (.ix (.call "halves_of" (.cons (.str "both") (.cons (.ix (.v 1) (.int 0)) (.cons (.v 3) .nil)))) (.int 1)))
 .nil)⟩
abbrev ak3:Def:=⟨4,["program","kinds","known","shelf"],
 (.cons (.ret (.meth (.v 3) "built" (.cons (.str "either") (.cons (.ix (.v 1) (.int 0)) (.cons (.methd (.v 3) "laid_kind" (.cons (.ix (.v 0) (.int 1)) .nil)) .nil)))))
 .nil)⟩
abbrev ak2:Def:=⟨4,["program","kinds","known","shelf"],
 (.cons (.ret (.meth (.v 3) "built" (.cons (.str "either") (.cons (.methd (.v 3) "laid_kind" (.cons (.ix (.v 0) (.int 1)) .nil)) (.cons (.ix (.v 1) (.int 0)) .nil)))))
 .nil)⟩
abbrev ad7:Def:=⟨4,["program","kinds","known","shelf"],
 (.cons (.iff (.cmp .NotEq (.ix (.v 1) (.int 1)) (.ix (.v 1) (.int 2)))
   (.cons .raise
  .nil)
   .nil)
 (.cons (.ret (.ix (.v 1) (.int 1)))
 .nil))⟩
abbrev al3:Def:=⟨4,["program","kinds","known","shelf"],
 (.cons (.ret (.meth (.v 3) "built" (.cons (.str "way") (.cons (.methd (.v 3) "laid_kind" (.cons (.ix (.v 0) (.int 1)) .nil)) (.cons (.ix (.v 1) (.int 0)) .nil)))))
 .nil)⟩
abbrev ad8:Def:=⟨4,["program","kinds","known","shelf","ends"],
 (.cons (.set 4 (.call "halves_of" (.cons (.str "way") (.cons (.ix (.v 1) (.int 0)) (.cons (.v 3) .nil)))))
 (.cons (.iff (.cmp .NotEq (.ix (.v 4) (.int 0)) (.ix (.v 1) (.int 1)))
   (.cons .raise
  .nil)
   .nil)
 (.cons (.ret (.ix (.v 4) (.int 1)))
 .nil)))⟩
abbrev al1:Def:=⟨4,["program","kinds","known","shelf"],
 (.cons (.ret (.ix (.v 1) (.int 1)))
 .nil)⟩
abbrev ad4:Def:=⟨4,["program","kinds","known","shelf"],
 (.cons (.iff (.cmp .NotEq (.meth (.v 3) "word_at" (.cons (.ix (.v 1) (.int 0)) .nil)) (.str "none"))
   (.cons .raise
  .nil)
   .nil)
 (.cons (.ret (.methd (.v 3) "laid_kind" (.cons (.ix (.v 0) (.int 1)) .nil)))
 .nil))⟩
abbrev M7:Def:=⟨2,["_law_program_here","_law_names_here","_law_word","_law_body","_law_first","_law_other"],
 (.cons (.set 2 (.ix (.v 0) (.int 0)))
 (.cons (.iff (.cmp .Eq (.v 2) (.str "name"))
   (.cons (.ret (.igt (.denu (.v 1)) (.ix (.v 0) (.int 1))))
  .nil)
   .nil)
 (.cons (.iff (.cmp .Eq (.v 2) (.str "star"))
   (.cons (.ret (.tup (.cons (.str "one") .nil)))
  .nil)
   .nil)
 (.cons (.iff (.cmp .Eq (.v 2) (.str "way"))
   (.cons (.set 3 (.call "_law_kind_of" (.cons (.ix (.v 0) (.int 2)) (.cons (.bin .Add (.tup (.cons (.ix (.v 0) (.int 1)) .nil)) (.v 1)) .nil))))
  (.cons (.ret (.ix (.lst (.cons (.tup (.cons (.str "way") (.cons (.ix (.v 0) (.int 1)) (.cons (.v 3) .nil)))) (.cons .non .nil))) (.toInt (.isN (.v 3)))))
  .nil))
   .nil)
 (.cons (.set 4 (.call "_law_kind_of" (.cons (.ix (.call "_law_inner" (.cons (.v 0) .nil)) (.int 0)) (.cons (.v 1) .nil))))
 (.cons (.iff (.isN (.v 4))
   (.cons (.ret .non)
  .nil)
   .nil)
 (.cons (.iff (.cmp .Eq (.v 2) (.str "case"))
   (.cons (.ret (.call "_law_kind_of_case" (.cons (.v 0) (.cons (.v 4) (.cons (.v 1) .nil)))))
  .nil)
   .nil)
 (.cons (.iff (.cmp .Eq (.v 2) (.str "let"))
   (.cons (.ret (.call "_law_kind_of" (.cons (.ix (.v 0) (.int 2)) (.cons (.bin .Add (.tup (.cons (.v 4) .nil)) (.v 1)) .nil))))
  .nil)
   .nil)
 (.cons (.iff (.cmp .Eq (.v 2) (.str "never"))
   (.cons (.ret (.ix (.lst (.cons .non (.cons (.ix (.v 0) (.int 1)) .nil))) (.toInt (.cmp .Eq (.v 4) (.tup (.cons (.str "none") .nil))))))
  .nil)
   .nil)
 (.cons (.iff (.cmp .Eq (.v 2) (.str "left"))
   (.cons (.ret (.tup (.cons (.str "either") (.cons (.v 4) (.cons (.ix (.v 0) (.int 1)) .nil)))))
  .nil)
   .nil)
 (.cons (.iff (.cmp .Eq (.v 2) (.str "right"))
   (.cons (.ret (.tup (.cons (.str "either") (.cons (.ix (.v 0) (.int 1)) (.cons (.v 4) .nil)))))
  .nil)
   .nil)
 (.cons (.iff (.or (.cmp .Eq (.v 2) (.str "first")) (.cmp .Eq (.v 2) (.str "second")))
   (.cons (.iff (.cmp .NotEq (.ix (.v 4) (.int 0)) (.str "both"))
    (.cons (.ret .non)
   .nil)
    .nil)
  (.cons (.ret (.ix (.v 4) (.bin .Add (.int 1) (.toInt (.cmp .Eq (.v 2) (.str "second"))))))
  .nil))
   .nil)
 (.cons (.set 5 (.call "_law_kind_of" (.cons (.ix (.v 0) (.int 2)) (.cons (.v 1) .nil))))
 (.cons (.iff (.cmp .Eq (.v 2) (.str "pair"))
   (.cons (.ret (.ix (.lst (.cons (.tup (.cons (.str "both") (.cons (.v 4) (.cons (.v 5) .nil)))) (.cons .non .nil))) (.toInt (.isN (.v 5)))))
  .nil)
   .nil)
 (.cons (.iff (.or (.cmp .NotEq (.ix (.v 4) (.int 0)) (.str "way")) (.or (.isN (.v 5)) (.cmp .NotEq (.ix (.v 4) (.int 1)) (.v 5))))
   (.cons (.ret .non)
  .nil)
   .nil)
 (.cons (.ret (.ix (.v 4) (.int 2)))
 .nil))))))))))))))))⟩
abbrev ac8:Def:=⟨3,["_law_program_here","_law_first","_law_names_here","_law_one","_law_other"],
 (.cons (.iff (.cmp .NotEq (.ix (.v 1) (.int 0)) (.str "either"))
   (.cons (.ret .non)
  .nil)
   .nil)
 (.cons (.set 3 (.call "_law_kind_of" (.cons (.ix (.v 0) (.int 2)) (.cons (.bin .Add (.tup (.cons (.ix (.v 1) (.int 1)) .nil)) (.v 2)) .nil))))
 (.cons (.set 4 (.call "_law_kind_of" (.cons (.ix (.v 0) (.int 3)) (.cons (.bin .Add (.tup (.cons (.ix (.v 1) (.int 2)) .nil)) (.v 2)) .nil))))
 (.cons (.ret (.ix (.lst (.cons .non (.cons (.v 3) .nil))) (.toInt (.cmp .Eq (.v 3) (.v 4)))))
 .nil))))⟩
abbrev ac9:Def:=⟨3,["_law_deck_here","_law_program_here","_law_names_here","_law_way"],
 (.cons (.set 3 (.call "_law_next" (.cons (.v 0) (.cons (.int 9) .nil))))
 (.cons (.iff (.cmp .Eq (.v 3) (.int 0))
   (.cons (.ret (.tup (.cons (.str "name") (.cons (.call "_law_next" (.cons (.v 0) (.cons (.bin .Add (.len (.v 2)) (.int 3)) .nil))) .nil))))
  .nil)
   .nil)
 (.cons (.iff (.cmp .Eq (.v 3) (.int 1))
   (.cons (.ret (.call "_law_program" (.cons (.v 0) (.cons (.call "_law_kind" (.cons (.v 0) (.cons (.int 2) (.cons (.int 9) .nil)))) (.cons (.v 2) (.cons (.int 3) .nil))))))
  .nil)
   .nil)
 (.cons (.iff (.cmp .Eq (.v 3) (.int 2))
   (.cons (.ret (.tup (.cons (.str "first") (.cons (.v 1) .nil))))
  .nil)
   .nil)
 (.cons (.iff (.cmp .Eq (.v 3) (.int 3))
   (.cons (.ret (.tup (.cons (.str "second") (.cons (.v 1) .nil))))
  .nil)
   .nil)
 (.cons (.iff (.cmp .Eq (.v 3) (.int 4))
   (.cons (.ret (.tup (.cons (.str "give") (.cons (.v 1) (.cons (.v 1) .nil)))))
  .nil)
   .nil)
 (.cons (.iff (.cmp .Eq (.v 3) (.int 5))
   (.cons (.ret (.tup (.cons (.str "never") (.cons (.call "_law_kind" (.cons (.v 0) (.cons (.int 1) (.cons (.int 4) .nil)))) (.cons (.v 1) .nil)))))
  .nil)
   .nil)
 (.cons (.iff (.cmp .Eq (.v 3) (.int 6))
   (.cons (.ret (.tup (.cons (.str "case") (.cons (.v 1) (.cons (.tup (.cons (.str "star") .nil)) (.cons (.ix (.lst (.cons (.tup (.cons (.str "star") .nil)) (.cons (.tup (.cons (.str "name") (.cons (.int 0) .nil))) .nil))) (.call "_law_next" (.cons (.v 0) (.cons (.int 2) .nil)))) .nil))))))
  .nil)
   .nil)
 (.cons (.iff (.cmp .In (.ix (.v 1) (.int 0)) (.tup (.cons (.str "left") (.cons (.str "right") (.cons (.str "way") (.cons (.str "never") .nil))))))
   (.cons (.ret (.tup (.cons (.ix (.v 1) (.int 0)) (.cons (.call "_law_kind" (.cons (.v 0) (.cons (.int 1) (.cons (.int 4) .nil)))) (.cons (.ix (.v 1) (.int 2)) .nil)))))
  .nil)
   .nil)
 (.cons (.ret (.tup (.cons (.str "name") (.cons (.len (.v 2)) .nil))))
 .nil))))))))))⟩
abbrev ad2:Def:=⟨3,["_law_deck_here","_law_program_here","_law_names_here","_law_some","_law_k","_law_at","_law_wrong"],
 (.cons (.set 3 (.call "_law_inner" (.cons (.v 1) .nil)))
 (.cons (.iff (.or (.cmp .Eq (.len (.v 3)) (.int 0)) (.cmp .Eq (.call "_law_next" (.cons (.v 0) (.cons (.int 4) .nil))) (.int 0)))
   (.cons (.ret (.call "_law_otherwise" (.cons (.v 0) (.cons (.v 1) (.cons (.v 2) .nil)))))
  .nil)
   .nil)
 (.cons (.set 4 (.call "_law_next" (.cons (.v 0) (.cons (.len (.v 3)) .nil))))
 (.cons (.set 5 (.bin .Add (.bin .Sub (.len (.v 1)) (.len (.v 3))) (.v 4)))
 (.cons (.set 6 (.call "_law_spoilt" (.cons (.v 0) (.cons (.ix (.v 1) (.v 5)) (.cons (.v 2) .nil)))))
 (.cons (.ret (.bin .Add (.bin .Add (.sl (.v 1) .non (.v 5)) (.tup (.cons (.v 6) .nil))) (.sl (.v 1) (.bin .Add (.v 5) (.int 1)) .non)))
 .nil))))))⟩
abbrev V1:Def:=⟨1,["_law_kind_here","_law_one","_law_other"],
 (.cons (.iff (.cmp .Eq (.len (.v 0)) (.int 1))
   (.cons (.ret (.v 0))
  .nil)
   .nil)
 (.cons (.set 1 (.call "_law_mirror" (.cons (.ix (.v 0) (.int 1)) .nil)))
 (.cons (.set 2 (.call "_law_mirror" (.cons (.ix (.v 0) (.int 2)) .nil)))
 (.cons (.iff (.cmp .Eq (.ix (.v 0) (.int 0)) (.str "either"))
   (.cons (.ret (.tup (.cons (.str "either") (.cons (.v 2) (.cons (.v 1) .nil)))))
  .nil)
   .nil)
 (.cons (.ret (.tup (.cons (.ix (.v 0) (.int 0)) (.cons (.v 1) (.cons (.v 2) .nil)))))
 .nil)))))⟩
abbrev ad0:Def:=⟨2,["_law_deck_here","_law_names_here","_law_kind_here","_law_mirrored","_law_body","_law_other","_law_asked_here","_law_yes","_law_no"],
 (.cons (.set 2 (.call "_law_kind" (.cons (.v 0) (.cons (.int 2) (.cons (.int 9) .nil)))))
 (.cons (.set 3 (.call "_law_mirror" (.cons (.v 2) .nil)))
 (.cons (.set 4 (.call "_law_program" (.cons (.v 0) (.cons (.call "_law_kind" (.cons (.v 0) (.cons (.int 1) (.cons (.int 4) .nil)))) (.cons (.bin .Add (.tup (.cons (.v 2) .nil)) (.v 1)) (.cons (.int 3) .nil))))))
 (.cons (.set 5 (.call "_law_program" (.cons (.v 0) (.cons (.v 3) (.cons (.v 1) (.cons (.int 3) .nil))))))
 (.cons (.set 6 (.call "_law_program" (.cons (.v 0) (.cons (.tup (.cons (.str "either") (.cons (.tup (.cons (.str "one") .nil)) (.cons (.tup (.cons (.str "one") .nil)) .nil)))) (.cons (.v 1) (.cons (.int 3) .nil))))))
 (.cons (.set 7 (.call "_law_program" (.cons (.v 0) (.cons (.v 2) (.cons (.bin .Add (.tup (.cons (.tup (.cons (.str "one") .nil)) .nil)) (.v 1)) (.cons (.int 3) .nil))))))
 (.cons (.set 8 (.call "_law_program" (.cons (.v 0) (.cons (.v 3) (.cons (.bin .Add (.tup (.cons (.tup (.cons (.str "one") .nil)) .nil)) (.v 1)) (.cons (.int 3) .nil))))))
 (.cons (.ret (.lst (.cons (.tup (.cons (.str "give") (.cons (.tup (.cons (.str "way") (.cons (.v 2) (.cons (.v 4) .nil)))) (.cons (.v 5) .nil)))) (.cons (.tup (.cons (.str "case") (.cons (.v 6) (.cons (.v 7) (.cons (.v 8) .nil))))) .nil))))
 .nil))))))))⟩
abbrev ad9:Def:=⟨2,["_law_program_here","_law_names_here","_law_caught","_law_found","e"],
 (.cons (.set 2 .non)
 (.cons (.set 3 .non)
 (.cons (.try1 "kind_of" 0 1 3 2 4)
 (.cons (.iff (.isN (.v 2))
   (.cons (.ret (.v 3))
  .nil)
   .nil)
 (.cons (.iff (.or (.not (.isX "NoKind" (.v 2))) (.not (.isX "ValueError" (.v 2))))
   (.cons (.ret (.str "odd"))
  .nil)
   .nil)
 (.cons (.iff (.or (.isX "NoStep" (.v 2)) (.isX "NoText" (.v 2)))
   (.cons (.ret (.str "odd"))
  .nil)
   .nil)
 (.cons (.ret .non)
 .nil)))))))⟩
abbrev ad1:Def:=⟨1,["_law_deck_here","_law_number","_law_some","_law_k","_law_one"],
 (.cons (.set 1 (.call "_law_next" (.cons (.v 0) (.cons (.bin .Pow (.int 10) (.int 6)) .nil))))
 (.cons (.set 2 (.lst (.cons (.mkx "NoKind") (.cons (.mks (.v 1)) (.cons (.mkx "NoText") .nil)))))
 (.cons (.for (.tup [3,4]) (.enum (.v 2))
   (.cons (.iff (.or (.cmp .NotEq (.isX "NoKind" (.v 4)) (.cmp .Eq (.v 3) (.int 0))) (.cmp .NotEq (.isX "NoStep" (.v 4)) (.cmp .Eq (.v 3) (.int 1))))
    (.cons (.ret (.bl AG))
   .nil)
    .nil)
  (.cons (.iff (.cmp .NotEq (.isX "NoText" (.v 4)) (.cmp .Eq (.v 3) (.int 2)))
    (.cons (.ret (.bl AG))
   .nil)
    .nil)
  (.cons (.iff (.not (.isX "EvenError" (.v 4)))
    (.cons (.ret (.bl AG))
   .nil)
    .nil)
  .nil))))
 (.cons (.ret (.cmp .Eq (.xat (.ix (.v 2) (.int 1))) (.v 1)))
 .nil))))⟩
abbrev ae9:Def:=⟨1,["_law_script","_law_deck_here","_law_names_here","_law_kind_here","_law_program_here","_law_turn","_law_wrong","_law_due"],
 (.cons (.set 1 (.call "_law_deck" (.cons (.v 0) .nil)))
 (.cons (.set 2 (.call "_law_names" (.cons (.v 1) (.cons (.int 3) (.cons (.int 64) .nil)))))
 (.cons (.set 3 (.call "_law_kind" (.cons (.v 1) (.cons (.int 3) (.cons (.int 16) .nil)))))
 (.cons (.set 4 (.call "_law_program" (.cons (.v 1) (.cons (.v 3) (.cons (.v 2) (.cons (.bin .Add (.int 4) (.call "_law_next" (.cons (.v 1) (.cons (.int 20) .nil)))) .nil))))))
 (.cons (.for (.n 5) (.rng (.int 3))
   (.cons (.set 6 (.call "_law_spoilt" (.cons (.v 1) (.cons (.v 4) (.cons (.v 2) .nil)))))
  (.cons (.set 7 (.call "_law_kind_of" (.cons (.v 6) (.cons (.v 2) .nil))))
  (.cons (.iff (.and (.cmp .LtE (.call "_law_parts" (.cons (.v 6) .nil)) (.int 60)) (.cmp .NotEq (.call "_law_told" (.cons (.v 6) (.cons (.v 2) .nil))) (.v 7)))
    (.cons (.ret (.bl AG))
   .nil)
    .nil)
  (.cons (.iff (.cmp .NotEq (.call "_law_told" (.cons (.v 4) (.cons (.v 2) .nil))) (.v 3))
    (.cons (.ret (.bl AG))
   .nil)
    .nil)
  .nil)))))
 (.cons (.for (.n 6) (.seq (.call "_law_exchanged" (.cons (.v 1) (.cons (.v 2) .nil))))
   (.cons (.set 7 (.call "_law_kind_of" (.cons (.v 6) (.cons (.v 2) .nil))))
  (.cons (.iff (.and (.cmp .LtE (.call "_law_parts" (.cons (.v 6) .nil)) (.int 60)) (.cmp .NotEq (.call "_law_told" (.cons (.v 6) (.cons (.v 2) .nil))) (.v 7)))
    (.cons (.ret (.bl AG))
   .nil)
    .nil)
  .nil)))
 (.cons (.ret (.call "_law_errors" (.cons (.v 1) .nil)))
 .nil)))))))⟩
abbrev Y8:List (Str×Def):=[(("Shelf.__init__":Str),aj4),(("Shelf.laid":Str),al6),(("Shelf.laid_kind":Str),Y0),(("Shelf.built":Str),al2),(("Shelf.numbered":Str),aj7),(("Shelf.put_by":Str),ak4),(("Shelf.taken_up":Str),aj6),(("Shelf.tuple_at":Str),aj5),(("Shelf.word_at":Str),ak1),(("Shelf.within":Str),al0),(("Node.__init__":Str),ak0),(("made_of_parts":Str),aj8),(("order_of_few":Str),ak6),(("taken":Str),aq4),(("tuples_in":Str),am3),(("inner":Str),ar0),(("names_more":Str),al7),(("noded":Str),aq2),(("folded":Str),P2),(("kind_of":Str),an2),(("shelved_names":Str),aj9),(("shelved_kind":Str),ak9),(("kind_of_node":Str),ak8),(("kind_by_parts":Str),ad6),(("new_name":Str),ae4),(("halves_of":Str),ae1),(("kind_of_name":Str),ae0),(("kind_of_star":Str),ak7),(("kind_of_pair":Str),ak5),(("kind_of_first":Str),ad5),(("kind_of_second":Str),ad3),(("kind_of_left":Str),ak3),(("kind_of_right":Str),ak2),(("kind_of_case":Str),ad7),(("kind_of_way":Str),al3),(("kind_of_give":Str),ad8),(("kind_of_let":Str),al1),(("kind_of_never":Str),ad4),(("_law_mixed":Str),al8),(("_law_deck":Str),J6),(("_law_next":Str),am9),(("_law_power":Str),am0),(("_law_count":Str),ae2),(("_law_kind":Str),M9),(("_law_least":Str),V2),(("_law_made":Str),O8),(("_law_nest":Str),ae6),(("_law_asked":Str),Q9),(("_law_grown":Str),V3),(("_law_inner":Str),am1),(("_law_parts":Str),al9),(("_law_program":Str),al4),(("_law_names":Str),J5),(("_law_kind_of":Str),M7),(("_law_kind_of_case":Str),ac8),(("_law_otherwise":Str),ac9),(("_law_spoilt":Str),ad2),(("_law_mirror":Str),V1),(("_law_exchanged":Str),ad0),(("_law_told":Str),ad9),(("_law_errors":Str),ad1),(("law":Str),ae9)]
abbrev Y9:i6:=λf=>Y8.lookup f
abbrev v0:Gs:=⟨λg=>if g="INNER_FROM" then [("name",.int 2),("star",.int 1),("pair",.int 1),("first",.int 1),("second",.int 1),("left",.int 2),("right",.int 2),("case",.int 1),("way",.int 2),("give",.int 1),("let",.int 1),("never",.int 2)]else if g="UNDER_ONE_MORE" then [("case",.ktup [.inl 1,.inl 2]),("way",.ktup [.inl 0]),("let",.ktup [.inl 1])]else if g="BY_WORD" then [("name",.fn "kind_of_name"),("star",.fn "kind_of_star"),("pair",.fn "kind_of_pair"),("first",.fn "kind_of_first"),("second",.fn "kind_of_second"),("left",.fn "kind_of_left"),("right",.fn "kind_of_right"),("case",.fn "kind_of_case"),("way",.fn "kind_of_way"),("give",.fn "kind_of_give"),("let",.fn "kind_of_let"),("never",.fn "kind_of_never")]else [],λc=>if c="!kt" then ["n"]else if c="!ix" then ["NoKind","NoStep","NoText","EvenError","ValueError"]else if c="!mx" then ["NoKind","NoText"]else if c="!xk" then ["NoKind","NoStep","NoText"]else if c="!ns" then ["n"]else if c="!Shelf.laid_kind" then ["d","d","d","d"]else if c="Shelf" then ["numbers","stored","parts","waiting"]else if c="Node" then ["program","inside","number","holders","ways","used","kind"]else [],λg=>if g="FEW" then AA (.int 2000)else AE⟩
end Ek
namespace Ek
open PySem L2
section
variable{c:Str}{st:BP}
@[reducible]noncomputable def bk1(K:AM)(cd:AF)(ts:List AI):Prop:=∃c P,cd=.ref c/\CA K c P=AC/\P∈ts
abbrev FnA(K:AM)(ts:List AI)(m:Bool)(f:Str)(st:BP):Prop:=∃(fa:AI)(od an:Option AI)(sl:Array (Option AF))(oc kV dc pm cd ct:AF),
 Ae K AK f=AA (AA (.ref fa))/\K.lookup fa=AA ⟨oc,od,.func (CZ f f (y0 st) (t3 st) (l9 st) .none kV dc pm an cd ct),sl⟩/\CQ K cd f=AC/\BQ K (.ref fa)=AC/\(m=AC->bk1 K cd ts)
section
variable {K:AM} {ts:List AI} {f m:Str} {fa Ca:AI} {od an:Option AI} {sl:Array (Option AF)} {oc kV dc pm cd ct:AF} {hc hp:AI}
def fnA(c:Ae K AK f=AA (AA (.ref fa)))(a:K.lookup fa=AA ⟨oc,od,.func (CZ f f (y0 st) (t3 st) (l9 st) .none kV dc pm an cd ct),sl⟩)(b:CQ K cd f=AC)(k1:BQ K (.ref fa)=AC):FnA K ts AG f st:=
 ⟨_,_,_,_,_,_,_,_,_,_,c,a,b,k1,nofun⟩
def fnM(g:Ae K AK f=AA (AA (.ref fa)))(a:K.lookup fa=AA ⟨oc,od,.func (CZ f f (y0 st) (t3 st) (l9 st) .none kV dc pm an cd ct),sl⟩)(e:CQ K cd f=AC)(k1:BQ K (.ref fa)=AC)
  (d:ah5 K cd=AA (hc,hp)) (c:CA K hc hp=AC) (b:ts.contains hp=AC):FnA K ts AC f st:=
 ⟨_,_,_,_,_,_,_,_,_,_,g,a,e,k1,λ_=>bg7 d c b⟩
structure ClA(K:AM)(c:Str)(Ca:AI):Prop where
 a:Ae K AK c=AA (AA (.ref Ca))
 cl:Cls K Ca
 ms:IS K Ca=AC
 kp:BQ K (.ref Ca)=AC
def clA(h:Ae K AK c=AA (AA (.ref Ca)))(g:Gd K Ca Str.empty=AC)(f:HM K Ca=AC)(e:JD K Ca=AC)(d:Av K (.ref Ca) "__setattr__"=AA (AA (.builtin "object.__setattr__")))(b:IS K Ca=AC)(a:BQ K (.ref Ca)=AC):ClA K c Ca:=⟨h,⟨g,f,e,d⟩,b,a⟩
abbrev MtA(K:AM)(ts:List AI)(b:Bool)(c:Str)(Ca:AI)(m:Str)(st:BP):Prop:=∃(fa:AI)(od an:Option AI)(sl:Array (Option AF))(oc kV dc pm cd ct:AF),
 Ae K AK (c9 c m)=AA AE/\Meth K Ca m fa/\K.lookup fa=AA ⟨oc,od,.func (CZ m (c9 c m) (y0 st) (t3 st) (l9 st) .none kV dc pm an cd ct),sl⟩/\CQ K cd (c9 c m)=AC/\(b=AC->bk1 K cd ts)
def mtA(g:Ae K AK (c9 c m)=AA AE)(f:Av K (.ref Ca) m=AA (AA (.ref fa)))(e:Ic K (.ref fa)=AC)(d:BQ K (.ref fa)=AC)
  (a:K.lookup fa=AA ⟨oc,od,.func (CZ m (c9 c m) (y0 st) (t3 st) (l9 st) .none kV dc pm an cd ct),sl⟩) (b:CQ K cd (c9 c m)=AC):MtA K ts AG c Ca m st:=⟨_,_,_,_,_,_,_,_,_,_,g,⟨f,e,d⟩,a,b,nofun⟩
def mtM(j:Ae K AK (c9 c m)=AA AE)(i:Av K (.ref Ca) m=AA (AA (.ref fa)))(h:Ic K (.ref fa)=AC)(g:BQ K (.ref fa)=AC)
  (a:K.lookup fa=AA ⟨oc,od,.func (CZ m (c9 c m) (y0 st) (t3 st) (l9 st) .none kV dc pm an cd ct),sl⟩) (f:CQ K cd (c9 c m)=AC) (e:ah5 K cd=AA (hc,hp)) (d:CA K hc hp=AC) (b:ts.contains hp=AC):MtA K ts AC c Ca m st:=
 ⟨_,_,_,_,_,_,_,_,_,_,j,⟨i,h,g⟩,a,f,λ_=>bg7 e d b⟩
abbrev MtD(K:AM)(c:Str)(Ca:AI)(m:Str)(st:BP)(i:Int):Prop:=∃(fa T:AI)(od an td:Option AI)(sl tsl:Array (Option AF))(oc kV dc pm cd ct tc:AF)(tk:Tok)(n:Nat),
 Ae K AK (c9 c m)=AA AE/\Meth K Ca m fa/\K.lookup fa=AA ⟨oc,od,.func (CZ m (c9 c m) (y0 st) (t3 st) (l9 st) (.ref T) kV dc pm an cd ct),sl⟩/\CQ K cd (c9 c m)=AC/\K.lookup T=AA ⟨tc,td,.seq #[.int i tk] n,tsl⟩
def mtD{T}{td}{tsl}{tc}{tk}{n}{i}(h:Ae K AK (c9 c m)=AA AE)(g:Av K (.ref Ca) m=AA (AA (.ref fa)))(f:Ic K (.ref fa)=AC)(e:BQ K (.ref fa)=AC)
  (b:K.lookup fa=AA ⟨oc,od,.func (CZ m (c9 c m) (y0 st) (t3 st) (l9 st) (.ref T) kV dc pm an cd ct),sl⟩) (d:CQ K cd (c9 c m)=AC) (a:K.lookup T=AA ⟨tc,td,.seq #[.int i tk] n,tsl⟩):MtD K c Ca m st i:=
 ⟨_,_,_,_,_,_,_,_,_,_,_,_,_,_,_,_,h,⟨g,f,e⟩,b,d,a⟩
end
def bdS{c:Type}{P:List c->Prop}{n}(h:∀a us,us.length=n->P (a::us)):∀us,us.length=n+1->P us:=λus hl=>by
 cases us with
 |nil=>cases hl
 |cons a us=>exact h a us (Fs hl)
def bdZ{a:Type}{P:List a->Prop}(h:P []):∀us,us.length=0->P us:=λus hl=>by
 grind
@[reducible]noncomputable def StF(st:BP)(d:Def)(f:Str):Prop:=Stat st d (d.N.take d.np) f f
@[reducible]noncomputable def StM(st:BP)(d:Def)(c m:Str):Prop:=Stat st d (d.N.take d.np) m (c9 c m)
section
variable [Tbs] {K:AM} {mg:Str->Option AF} {h:Au} {f m:Str} {d:Def} {Ca:AI} {b:Bool} {U:Str->List Str}
def FnA.ok(A:FnA K Tbs.ps b f st)(X:K.In h)(G:h.Ns AK mg)(S:StF st d f:=by exact⟨⟨⟨rfl,rfl,rfl,by decide+kernel,rfl,by decide+kernel,by decide+kernel⟩,rfl,by decide+kernel⟩,λ_ _ _ _ _ _=>by(repeat refine bdS λ_=>?_);exact bdZ rfl⟩)(g:(d.N.contains v4=AC->b=AC):=by decide+kernel)(a:z8 U f=AE:=by decide+kernel):DefOk K mg (z8 U f) f d:=by
 obtain⟨p,m,t,k,n,o,q,l,s,r,j,e,i,k1,c⟩:=A;exact cv5 X G S j e i k1 (λz=>c (g z)) a
def MtA.ok(A:MtA K Tbs.ps b c Ca m st)(C:ClA K c Ca)(X:K.In h)(G:h.Ns AK mg)(S:StM st d c m:=by exact⟨⟨⟨rfl,rfl,rfl,by decide+kernel,rfl,by decide+kernel,by decide+kernel⟩,rfl,by decide+kernel⟩,λ_ _ _ _ _ _=>by(repeat refine bdS λ_=>?_);exact bdZ rfl⟩)(k:(d.N.contains v4=AC->b=AC):=by decide+kernel)(e:z8 U (c9 c m)=AE:=by decide+kernel)(n:isM c=AG:=by decide+kernel)(l:isM m=AG:=by decide+kernel)(j:f=c9 c m:=by decide+kernel):∃c m,f=c9 c m/\isM c=AG/\isM m=AG/\MthOk K mg (z8 U (c9 c m)) c m d:=by
 obtain⟨v,s,B,q,t,u,w,r,y,x,p,M,i,o,g⟩:=A;subst j;exact⟨c,m,rfl,n,l,ck6 X G S p C.a C.cl M (λz=>by subst z;exact⟨C.ms,M.at_,M.fn,C.kp⟩) i o (λz=>g (k z)) e⟩
def MtD.ok{i:Int}{b:List Str}(A:MtD K c Ca m st i)(C:ClA K c Ca)(X:K.In h)(G:h.Ns AK mg)(S:Stat0 st d b)
  (r:∀(T:AI)(g j e:AF)(p:Option AI)(l k:AF)(tk:Tok)(s:AJ)(o:Obj)(n:Nat),s.heap.get? T=AA o->o.data=.seq #[.int i tk] n->(∀us:List AF,us.length=b.length->HE s (CZ m (c9 c m) (y0 st) (t3 st) (l9 st) (.ref T) g j e p l k) ⟨us,[]⟩ (b.zip us))/\∀us:List AF,us.length+1=b.length->HE s (CZ m (c9 c m) (y0 st) (t3 st) (l9 st) (.ref T) g j e p l k) ⟨us,[]⟩ (b.zip (us++[.int i tk])))
  (y:(d.N.contains v4=AG):=by decide+kernel) (q:z8 U (c9 c m)=AA i:=by decide+kernel) (D:isM c=AG:=by decide+kernel) (B:isM m=AG:=by decide+kernel) (w:m≠"__init__":=by decide+kernel) (x:f=c9 c m:=by decide+kernel):∃c m,f=c9 c m/\isM c=AG/\isM m=AG/\MthOk K mg (z8 U (c9 c m)) c m d:=by
 obtain⟨P,T,L,p,H,J,t,O,g,j,e,l,k,I,tk,n,F,M,v,E,u⟩:=A;subst x;exact⟨c,m,rfl,D,B,ca5 X G S (λs o n=>r T g j e p l k tk s o n) F C.a C.cl M (λz=>absurd z w) v E u (λz=>by rw[y]at z;cases z) q⟩
end
abbrev c77(K:AM)(l:List (Str×AI))(r:List (Str×AF)):Bool:=l.all λk=>r.all λc=>Cy K (.ref k.2) c.2==AA (C6 k.1 c.1)
structure XaA(K:AM)(Ck Cs Ct E f:AI)(st:BP):Prop where
 nk:Ae K AK "NoKind"=AA (AA (.ref Ck))
 ns:Ae K AK "NoStep"=AA (AA (.ref Cs))
 nt:Ae K AK "NoText"=AA (AA (.ref Ct))
 ne:Ae K AK "EvenError"=AA (AA (.ref E))
 nv:Ae K AK "ValueError"=AA AE
 xk:XcOk K Ck
 xs:XcOk K Cs
 xt:XcOk K Ct
 kit:c77 K [("NoKind",Ck),("NoStep",Cs),("NoText",Ct)] [("NoKind",.ref Ck),("NoStep",.ref Cs),("NoText",.ref Ct),("EvenError",.ref E),("ValueError",.type "ValueError")]=AC
 ek:GC K Ck vB "ValueError.__new__"=AC
 et:GC K Ct vB "ValueError.__new__"=AC
 kk:BQ K (.ref Ck)=AC
 kt:BQ K (.ref Ct)=AC
 ks:BQ K (.ref Cs)=AC
 em:JM K (.ref Ck) (.ref E)=AA AC
 es:ai5 K Cs f=AC
 hd:((Hi K Cs).any λc=>c.hasDict)=AC
 no:Av K (.ref Cs) "at"=AA AE
 sa:Av K (.ref Cs) "__setattr__"=AA (AA (.builtin "object.__setattr__"))
 fn:∃od sl kV dc pm an cd ct,K.lookup f=AA ⟨.type "function",od,.func (CZ "__init__" "NoStep.__init__" (y0 st) (t3 st) (l9 st) .none kV dc pm an cd ct),sl⟩/\CQ K cd "NoStep.__init__"=AC
 kf:BQ K (.ref f)=AC
 ev:∃mc,Er K (.ref E) "__getattribute__"=AA (AA (.builtin "type.__getattribute__"))/\W.readsIn K E mc=AC/\W.findCls K (.ref E) mc "__init__"=AA (.val (.builtin "ValueError.__init__"))
def xcA{K}{C}(h:(Hi K C).isSome=AC)(g:Av K (.ref C) "__getattribute__"=AA (AA (.builtin "BaseException.__getattribute__")))(f:Av K (.ref C) "__getattr__"=AA AE)(e:Hd K C (.type "BaseException")=AA AC)(d:Av K (.ref C) "__class__"=AA (AA (.builtin "object.__class__")))
  (c:Er K (.builtin "object.__class__") "__get__"=AA (AA (.builtin "getset_descriptor.__get__"))) (b:IT K (.builtin "object.__class__")=AA AC) (a:Hd K C (.type "object")=AA AC):XcOk K C:=⟨h,g,f,e,d,c,b,a⟩
def db2{K}{f}{d i}{b}{e g c a h}(j:K.lookup f=AA ⟨.type "function",d,.func (CZ "__init__" "NoStep.__init__" (y0 st) (t3 st) (l9 st) .none e g c i a h),b⟩)(k:CQ K a "NoStep.__init__"=AC):
  ∃d b e g c i a h,K.lookup f=AA ⟨.type "function",d,.func (CZ "__init__" "NoStep.__init__" (y0 st) (t3 st) (l9 st) .none e g c i a h),b⟩/\CQ K a "NoStep.__init__"=AC:=⟨_,_,_,_,_,_,_,_,j,k⟩
section
variable {K:AM} {Ck Cs Ct E f:AI} {mg:Str->Option AF} {h:Au}
def XaA.ix(A:XaA K Ck Cs Ct E f st){v}(e:(c,v)∈([(("NoKind":Str),Al Ck),("NoStep",.ref Cs),("NoText",.ref Ct),("EvenError",.ref E),("ValueError",.type "ValueError")])):Q5 K ["NoKind","NoStep","NoText"] c v:=by
 have a:∀k(C),(k,C)∈[(("NoKind":Str),Ck),("NoStep",Cs),("NoText",Ct)]->Cy K (.ref C) v=AA (C6 k c):=λk C d=>(have g:=DH.mp A.kit _ d;beq_iff_eq.mp (DH.mp g _ e))
 intro k d C b;simp at d
 rcases d with rfl|rfl|rfl
 ·rw[A.nk]at b;cases b;exact⟨A.xk,a _ _ ∎⟩
 ·rw[A.ns]at b;cases b;exact⟨A.xs,a _ _ ∎⟩
 ·rw[A.nt]at b;cases b;exact⟨A.xt,a _ _ ∎⟩
def XaA.ixc(A:XaA K Ck Cs Ct E f st)(X:K.In h)(G:h.Ns AK mg):∀c∈([("NoKind":Str),("NoStep":Str),("NoText":Str),("EvenError":Str),("ValueError":Str)]),(∃b,mg c=AA (.ref b)/\Q5 K ["NoKind","NoStep","NoText"] c (.ref b))\/(c="ValueError"/\mg c=AE/\Q5 K ["NoKind","NoStep","NoText"] c (.type "ValueError")):=by
 intro c a;simp only[AR,AW,or_false]at a
 rcases a with rfl|rfl|rfl|rfl|rfl
 ·exact .inl ⟨Ck,DG X G A.nk,A.ix ∎⟩
 ·exact .inl ⟨Cs,DG X G A.ns,A.ix ∎⟩
 ·exact .inl ⟨Ct,DG X G A.nt,A.ix ∎⟩
 ·exact .inl ⟨E,DG X G A.ne,A.ix ∎⟩
 ·exact .inr ⟨rfl,MH X G A.nv,A.ix ∎⟩
def XaA.mxc(A:XaA K Ck Cs Ct E f st)(X:K.In h)(G:h.Ns AK mg):∀c∈[("NoKind":Str),("NoText":Str)],MxOk K mg c:=by
 intro c a;simp only[AR,AW,or_false]at a
 rcases a with rfl|rfl
 ·exact⟨_,A.nk,DG X G A.nk,A.ek,A.kk⟩
 ·exact⟨_,A.nt,DG X G A.nt,A.et,A.kt⟩
def XaA.nsa(A:XaA K Ck Cs Ct E f st)(X:K.In h)(G:h.Ns AK mg)(T:NiT st)(q:∀(b d a)j(i g)us,us.length=(["self","at"]:List Str).length->EF (CZ "__init__" "NoStep.__init__" (y0 st) (t3 st) (l9 st) .none b d a j i g) ⟨us,[]⟩=pure ((["self","at"]:List Str).zip us)):NsA K mg:=by
 obtain⟨t,s,b,d,a,j,i,g,k,r⟩:=A.fn;obtain⟨p,o,n,m⟩:=A.ev;have l:=A.hd;cases e:Hi K Cs with
 |none=>simp_all
 |some c=>
  rw[e]at l;exact⟨Cs,f,_,_,_,st,⟨⟨A.xs,⟨c,e,l⟩,A.no⟩,A.es,A.sa⟩,A.ns,DG X G A.ns,A.ks,⟨⟨_,_,_,_,_,_,_,_,_,_,rfl,k,r⟩,A.kf⟩,T,.all (q b d a j i g),⟨_,k,rfl⟩,E,p,DG X G A.ne,o,n,m⟩
end
def j6{e c:Type}{P:e->c->Prop}{a}{b}{l}(h:P a b)(t:∀f d,(f,d)∈l->P f d):∀f d,(f,d)∈(a,b)::l->P f d:=λf d hx=>(AR.1 hx).elim λe=>by grind (t f d)
def bi8{b a:Type}{P:b->a->Prop}:∀f d,(f,d)∈[]->P f d:=nofun
end
section
local macro_rules|`(tactic|rfl')=>do
 let l:=("c34 c31 cp6 de3 c52 cw2 co1 cy3 b78 ck1 cp7 c66 c38 c99 bj1 bk3 e_v cw9 c18 c11 c64 c42 c56 cl7 c35 de6 c69 cy1 dd6 db8 c39 c01 ca3 ca9 cf9 c14 b51 cd8 b98 cs4 b20 cb9 cg8 b55 cl0 b75 b01 co2 cv8 c45 cx6 cc7 cx3 cp2 cf3 c40 cj7 dd9 b93 cy5 cq4 c22 by5 a04 c96 ce0 cj5 cw1 cq6 ch8 cu0 cl3 c08 cz3 cz6 cf0 c50 c54 cu7 c12 c61 c17 c62 c02 ca4 c27 cw8 ck7 b95 cr3 cm4 cd4 c65 c09 cq1 cu1 cn5 c72 dc0 da5 c87 da3 da4 de4 cz4 c75 cz1 cm8 c15 cv1 dd8 c98 c74 or_false false_or cl6 ct7 cs0 cr5 bg6 co5 cp0 c25 aa7 c32 bj2 c20 ar9 as2 ab2 cz2 cg7 c19 cx4 c58 c33 bl7 cx9 dd3 c67 ai1 da9 da7 da2 da8 cz8 cw0 c06 c10 cr2 b72 by6 co0 ce7 cn2 cv4 ci4 bo9 bq4 c41 cl1 List.set_cons_zero List.set_cons_succ List.getElem?_cons_zero List.getElem?_cons_succ decide_eq_true_eq not_eq_true' decide_eq_false_iff_not if_true if_false true_and and_true false_eq_true Bool.true_eq_false length_cons length_nil String.reduceEq decide_true decide_false Bool.not_true Bool.not_false".splitOn " ").toArray.map fun n=>Lean.mkIdent n.toName
 `(tactic|try simp only[↓dc7,↓db6,↓c86,↓de7,$[$l:ident],*])
set_option hygiene false
local macro_rules | `(tactic| ∎)=>`(tactic| ((try dsimp only);(first | refine bl0 ?_ | rw [cu6]);rfl'))
set_option hygiene true
variable{P:i6}{G:Gs}{n m i j:Nat}{st st':Sto}{Q:DK}{a dn sh sa pa wa da ca ka la ba aa:AI}{b:Kd}{x r h h' w':Int}{p c:Pg}{L f X R:List AI}{ds fr A:List D}{M kd' nd kd nm md:D}{w:String}{Γ ks Δ:List Kd}{ws ws':List (Kd×Bool)}{bX:Bool}
structure PB0(P:i6):Prop where
 mixed:P "_law_mixed"=AA al8
 deck:P "_law_deck"=AA J6
 next:P "_law_next"=AA am9
 power:P "_law_power"=AA am0
 count:P "_law_count"=AA ae2
 kind:P "_law_kind"=AA M9
structure PB(P:i6):Prop extends PB0 P where
 least:P "_law_least"=AA V2
 made:P "_law_made"=AA O8
 nest:P "_law_nest"=AA ae6
 asked:P "_law_asked"=AA Q9
 grown:P "_law_grown"=AA V3
 inner:P "_law_inner"=AA am1
 parts:P "_law_parts"=AA al9
 program:P "_law_program"=AA al4
 names:P "_law_names"=AA J5
section
variable (B:PB0 P) 
include B
def a68 c k(q:∀i,Q (.int i) st):sem P G (n+1) "_law_mixed" [.int c,.int k] st Q:=by
 refine i8 B.mixed rfl [AA (.int c),AA (.int k),AE] rfl ?_;∎;refine⟨∅,ag6 ⟨∅,∅⟩,W0 ⟨∅,∅⟩,∅,?_⟩;∎;refine⟨⟨∅,∅⟩,W0 ⋯,W0 ⟨∅,∅⟩,∅,?_⟩;∎;refine⟨ag6 ⟨∅,∅⟩,⟨∅,∅⟩,∅,c0 (q _)⟩
def z9{m:Int}(c:0<m)(h:o5 st a)(q:∀r b,0<=r->r<m->o5 b a->Kp [a] st b->Q (.int r) b):sem P G (n+1) "_law_next" [.ref a,.int m] st Q:=by
 obtain⟨l,h⟩:=h;refine i8 B.next rfl [AA (.ref a),AA (.int m)] rfl ?_;unfold am9;dsimp only;∎;rw[v6 (.inl h)];rfl';cases l with
 |nil=>
  rw[if_pos ∎];∎;exact c0 (q 0 st (Li _) c ⟨[],h⟩ Kp.refl)
 |cons x l=>
  rw[if_neg (by simp only[Ag,AY];lia)];∎;rw[B0 (.inl h)];refine⟨trivial,⟨∅,∅⟩,_,0,.int x,h,by simp[ixN],rfl,?_⟩;simp only[bg6];refine⟨c,c0 (q _ _ (Jx _ ⋯) (JP _ c) ⟨l,?_⟩ (Kp.refl.put ∎))⟩;rw[f7];rfl
def b36{b:Int}{t:Nat}(c:0<=b/\b<2^64)(a:t<2^62)(q:Q (.int (b^t)) st):sem P G (n+1) "_law_power" [.int b,.int t] st Q:=by
 refine i8 B.power rfl [AA (.int b),AA (.int t),AE,AE] rfl ?_;unfold am0;(iterate 2 ∎);refine⟨⋯,?_⟩;refine L4 (λl env st'=>st'=st/\∃(f:Int)(x:Option D),env=[AA (.int b),AA (.int t),AA (.int f),x]/\f*b^l.length=b^t) ?_ ?_ _ _ _ ⟨rfl,1,AE,rfl,by simp[v5]⟩
 ·rintro env st' ⟨rfl,f,x,rfl,e⟩;∎;have:f=b^t:=by rw[<-e];simp
  rw[this];exact c0 q
 ·rintro d ds env st' ih ⟨rfl,f,x,rfl,e⟩;rfl';∎;refine⟨ag6 ⟨⋯,⋯⟩,ih _ _ ⟨rfl,_,_,rfl,?_⟩⟩;rw[<-e,AY,LW,Int.mul_assoc,Int.mul_comm b]
def N4:∀(k:Kd){m n:Nat}{Q:DK},k.nest+2<=n->(∀a b,k=.eith a b\/k=.both a b\/k=.way a b->a.bd m/\b.bd m)->m<2^62->Q (.int k.cnt) st->sem P G n "_law_count" [k.d] st Q:=by
 have l:∀(w:String)(n:Nat)(Q:DK),Q (.int (if w="one" then 1 else 0)) st->sem P G (n+1) "_law_count" [.tup [.str w]] st Q:=λw n Q q=>by
  refine i8 B.count rfl [AA (.tup [.str w]),AE,AE] rfl ?_;∎;∎;exact c0 q
 have h:∀(w:String)(a b:Kd)(n m:Nat)(Q:DK)(v:Nat),(∀Q:DK,Q (.int a.cnt) st->sem P G n "_law_count" [a.d] st Q)->(∀Q:DK,Q (.int b.cnt) st->sem P G n "_law_count" [b.d] st Q)->a.bd m->b.bd m->m<2^62->0<n ->
   (o9 [("either",.int (a.cnt+b.cnt)),("both",.int (a.cnt*b.cnt)),("way",.int ((b.cnt:Int)^a.cnt))] w=AA (.int v))->Q (.int v) st->sem P G (n+1) "_law_count" [.tup [.str w,a.d,b.d]] st Q:=λw a b n m Q v ha hb f c g o hl q=>by
  obtain⟨n,rfl⟩:∃k,n=k+1:=⟨n-1,⋯⟩;have z:=Kd.bd_le f;have y:=Kd.bd_le c;refine i8 B.count rfl [AA (.tup [.str w,a.d,b.d]),AE,AE] rfl ?_;unfold ae2;∎;∎;refine⟨by rw[B.count];rfl,ha _ ?_⟩;∎;refine⟨by rw[B.count];rfl,hb _ ?_⟩;∎;refine⟨ag6 ⟨⋯,⋯⟩,by rw[B.power];rfl,b36 B ⟨⋯,⋯⟩ ⋯ ?_⟩;rfl';exact⟨_,hl,c0 q⟩
 intro k
 induction k with
 |non=>intro m n Q o _ _ q;obtain⟨n,rfl⟩:∃k,n=k+1:=⟨n-1,⋯⟩;exact l "none" n Q q
 |one=>intro m n Q o _ _ q;obtain⟨n,rfl⟩:∃k,n=k+1:=⟨n-1,⋯⟩;exact l "one" n Q q
 |eith a b j i=>
  intro m n Q o p g q;obtain⟨n,rfl⟩:∃k,n=k+1:=⟨n-1,⋯⟩;have⟨f,c⟩:=p a b (.inl rfl);simp only[Kd.nest]at o;exact h "either" a b n m Q _ (λQ q=>j ⋯ (λc d e=>by rcases e with e|e|e<;>(subst e;exact⟨f.1,f.2.1⟩)) g q) (λQ q=>i ⋯ (λc d e=>by rcases e with e|e|e<;>(subst e;exact⟨c.1,c.2.1⟩)) g q) f c g ⋯ rfl q
 |both a b j i=>
  intro m n Q o p g q;obtain⟨n,rfl⟩:∃k,n=k+1:=⟨n-1,⋯⟩;have⟨f,c⟩:=p a b (.inr (.inl rfl));simp only[Kd.nest]at o;exact h "both" a b n m Q _ (λQ q=>j ⋯ (λc d e=>by rcases e with e|e|e<;>(subst e;exact⟨f.1,f.2.1⟩)) g q) (λQ q=>i ⋯ (λc d e=>by rcases e with e|e|e<;>(subst e;exact⟨c.1,c.2.1⟩)) g q) f c g ⋯ rfl q
 |way a b j i=>
  intro m n Q o p g q;obtain⟨n,rfl⟩:∃k,n=k+1:=⟨n-1,⋯⟩;have⟨f,c⟩:=p a b (.inr (.inr rfl));simp only[Kd.nest]at o;exact h "way" a b n m Q _ (λQ q=>j ⋯ (λc d e=>by rcases e with e|e|e<;>(subst e;exact⟨f.1,f.2.1⟩)) g q) (λQ q=>i ⋯ (λc d e=>by rcases e with e|e|e<;>(subst e;exact⟨c.1,c.2.1⟩)) g q) f c g ⋯ rfl q
end
section
variable (B:PB P) 
include B
def b94:∀(k:Kd){n:Nat}{Q:DK},k.nest+1<=n->Q (.int k.nest) st->sem P G n "_law_nest" [k.d] st Q:=by
 have c:∀(w:String)(n:Nat)(Q:DK),Q (.int 0) st->sem P G (n+1) "_law_nest" [.tup [.str w]] st Q:=λw n Q q=>by
  refine i8 B.nest rfl [AA (.tup [.str w])] rfl ?_;unfold ae6;dsimp only;∎;∎;exact c0 q
 have h:∀(w:String)(a b:Kd)(n:Nat)(Q:DK),(∀Q:DK,Q (.int a.nest) st->sem P G n "_law_nest" [a.d] st Q)->(∀Q:DK,Q (.int b.nest) st->sem P G n "_law_nest" [b.d] st Q) ->
   Q (.int (1+max a.nest b.nest:Nat)) st->sem P G (n+1) "_law_nest" [.tup [.str w,a.d,b.d]] st Q:=λw a b n Q ha hb q=>by
  refine i8 B.nest rfl [AA (.tup [.str w,a.d,b.d])] rfl ?_;unfold ae6;dsimp only;∎;∎;refine⟨by rw[B.nest];rfl,ha _ ⟨by rw[B.nest];rfl,hb _ ?_⟩⟩;rfl';refine c0 ?_;have e:(1+if(b.nest:Int)>a.nest then(b.nest:Int)else a.nest)=((1+max a.nest b.nest:Nat):Int):=by split<;>lia
  rw[e];exact q
 intro k
 induction k with
 |non=>intro n Q i q;obtain⟨n,rfl⟩:∃k,n=k+1:=⟨n-1,⋯⟩;exact c "none" n Q q
 |one=>intro n Q i q;obtain⟨n,rfl⟩:∃k,n=k+1:=⟨n-1,⋯⟩;exact c "one" n Q q
 |eith a b g f|both a b g f|way a b g f=>
  intro n Q i q;obtain⟨n,rfl⟩:∃k,n=k+1:=⟨n-1,⋯⟩;simp only[Kd.nest]at i;exact h _ a b n Q (λQ q=>g ⋯ q) (λQ q=>f ⋯ q) q
end
section
variable (B:PB0 P) 
include B
def N5{most:Nat}(l:1<=most)(h2:most<=100):∀(b:Nat){n:Nat}{st:Sto}{Q:DK},b+4<=n->o5 st a->(∀(k:Kd)M,k.good->k.bd most->k.nest<=b->o5 M a->Kp [a] st M->Q k.d M)->sem P G n "_law_kind" [.ref a,.int b,.int most] st Q:=by
 intro b
 induction b with
 |zero=>
  intro n st Q hn I q;obtain⟨n,rfl⟩:∃k,n=k+2:=⟨n-2,⋯⟩;refine i8 B.kind rfl [AA (.ref a),AA (.int (0:Nat)),AA (.int most),AE,AE,AE,AE] rfl ?_;∎;refine⟨by rw[B.next];rfl,λp hp=>⟨.int 1,rfl,z9 B ∅ (I.new hp) λr st1 r0 r1 I1 K=>?_⟩⟩;have e:r=0:=by lia
  subst e;(iterate 2 ∎);intro p1 i;rfl';exact c0 (q .one _ trivial l (BU _) (I1.new i) (((Kp.refl.new hp).trans K).new i))
 |succ b ih=>
  intro n st Q hn I q;obtain⟨n,rfl⟩:∃k,n=k+2:=⟨n-2,⋯⟩;refine i8 B.kind rfl [AA (.ref a),AA (.int (b+1:Nat)),AA (.int most),AE,AE,AE,AE] rfl ?_;∎;have hd:(0:Int)<((b+1:Nat):Int):=by lia
  simp only[hd,if_true];refine⟨by rw[B.next];rfl,λp hp=>⟨.int 6,rfl,z9 B ∅ (I.new hp) λr st1 r0 r1 I1 K=>?_⟩⟩;have K:=(Kp.refl.new hp).trans K;∎
  by_cases e0:r=0
  ·subst e0;simp only[if_true];∎;intro p1 i;rfl';exact c0 (q .one _ trivial l (BU _) (I1.new i) (K.new i))
  simp only[e0,if_false]
  by_cases e5:r=5
  ·subst e5;simp only[if_true];∎;intro p1 i
   by_cases hm:(1:Int)<most
   ·rfl';simp only[hm,if_true];rfl';exact c0 (q (.eith .one .one) _ (.inl ⟨trivial,trivial⟩) ⟨l,l,by show 1+1<=most;lia⟩ (by show 1+max 0 0<=_;lia) (I1.new i) (K.new i))
   ·rfl';simp only[hm,if_false];rfl';exact c0 (q .one _ trivial l (BU _) (I1.new i) (K.new i))
  simp only[e5,if_false];∎;intro p1 i;have I2:=I1.new (u:=.lst [.str "either",.str "both",.str "way",.str "either"]) i;have K2:=K.new (o:=.lst [.str "either",.str "both",.str "way",.str "either"]) i;revert I2 K2;intro I2 K2;obtain⟨w,hw,hws⟩:∃w:String,atI [D.str "either",.str "both",.str "way",.str "either"] (r-1)=AA (.str w)/\(w="either"\/w="both"\/w="way"):=by
   obtain rfl|rfl|rfl|rfl:r=1\/r=2\/r=3\/r=4:=by lia
   ·exact⟨"either",rfl,∎⟩
   ·exact⟨"both",rfl,∎⟩
   ·exact⟨"way",rfl,∎⟩
   ·exact⟨"either",rfl,∎⟩
  rw[hw];rfl';∎;have ed:((b+1:Nat):Int)-1=(b:Nat):=by lia
  rw[ed];refine⟨by rw[B.kind];rfl,ih ⋯ I2 λka st3 ga s A I3 K3=>?_⟩;have K3:=K2.trans K3;∎;rw[ed];refine⟨by rw[B.kind];rfl,ih ⋯ I3 λkb st4 gb p v I4 S=>?_⟩;have S:=K3.trans S;∎;have fin:∀(w:String)(ka kb k:Kd)(j:Sto)(x:Option D),k.d=.tup [.str w,ka.d,kb.d]->(w≠"way"->k.good)->(w="way"->k=.way ka kb/\(ka.good\/ka=.non)/\kb.good)->(∀c d,k=.eith c d\/k=.both c d\/k=.way c d->c=ka/\d=kb)->k≠.non->k≠.one->ka.bd most->kb.bd most->ka.nest<=b->kb.nest<=b->o5 j a->Kp [a] st j ->
    i5 (Zg P G (n+1)) (M9.body.drop 6) (j9 Q) [AA (.ref a),AA (.int (b+1:Nat)),AA (.int most),AA (.int r),AA (.str w),AA ka.d,AA kb.d] j:=by
   intro w ka kb k j x T hg hw J E C s p A v L t;have nk:∀k:Kd,(∀c d,k=.eith c d\/k=.both c d\/k=.way c d->c.nest<=b/\d.nest<=b)->k.nest<=b+1:=λk h=>by
    cases k with
    |non=>exact BU _
    |one=>exact BU _
    |eith c d=>have:=h c d (.inl rfl);simp only[Kd.nest];lia
    |both c d=>have:=h c d (.inr (.inl rfl));simp only[Kd.nest];lia
    |way c d=>have:=h c d (.inr (.inr rfl));simp only[Kd.nest];lia
   have y:∀(ka kb k:Kd),k.d=.tup [.str w,ka.d,kb.d]->k.good->(∀c d,k=.eith c d\/k=.both c d\/k=.way c d->c=ka/\d=kb)->k≠.non->k≠.one->ka.bd most->kb.bd most->ka.nest<=b->kb.nest<=b ->
     i5 (Zg P G (n+1)) (M9.body.drop 7) (j9 Q) [AA (.ref a),AA (.int (b+1:Nat)),AA (.int most),AA (.int r),AA (.str w),AA ka.d,AA kb.d] j:=by
    intro ka kb k T hg J E C s p A v;have nk':=nk k λc d e=>by obtain⟨H,F⟩:=J c d e;subst H F;exact⟨A,v⟩
    simp only[M9,Ss.drop];∎;rw[<-T];refine⟨by rw[B.count];rfl,N4 B k (m:=most) ⋯ (λc d e=>by obtain⟨H,F⟩:=J c d e;subst H F;exact⟨s,p⟩) ⋯ ?_⟩;rfl'
    by_cases z:(most:Int)<k.cnt
    ·simp only[z,if_true];∎;exact c0 (q .one _ trivial l (BU _) L t)
    ·simp only[z,if_false];∎;rw[<-T];refine c0 (q k _ hg ?_ nk' L t);cases k with
     |non=>exact absurd rfl E
     |one=>exact absurd rfl C
     |eith c d=>obtain⟨H,F⟩:=J c d (.inl rfl);subst H F;exact⟨s,p,by have:=z;simp only[Kd.cnt]at this;lia⟩
     |both c d=>obtain⟨H,F⟩:=J c d (.inr (.inl rfl));subst H F;exact⟨s,p,by have:=z;simp only[Kd.cnt]at this;lia⟩
     |way c d=>obtain⟨H,F⟩:=J c d (.inr (.inr rfl));subst H F;exact⟨s,p,by have:=z;simp only[Kd.cnt]at this;lia⟩
   by_cases U:w="way"
   ·obtain⟨rfl,gka,N⟩:=hw U;subst U;simp only[M9,Ss.drop];∎;refine⟨by rw[B.count];rfl,N4 B ka (m:=most) ⋯ (λc d e=>by rcases e with e|e|e<;>(subst e;exact⟨s.1,s.2.1⟩)) ⋯ ?_⟩;rfl'
    by_cases h6:(6:Int)<ka.cnt
    ·simp only[h6,if_true];∎;exact y .one kb (.way .one kb) rfl ⟨.inl trivial,N,∅⟩ (λc d e=>by rcases e with e|e|e<;>cases e;exact⟨rfl,rfl⟩) ∎ ∎ l p (BU _) v
    ·simp only[h6,if_false];exact y ka kb (.way ka kb) rfl ⟨gka,N,⋯⟩ J E C s p A v
   ·simp only[M9,Ss.drop];∎;simp only[U,if_false];exact y ka kb k T (hg U) J E C s p A v
  rcases hws with rfl|rfl|rfl
  ·rfl';refine⟨by rw[B.next];rfl,z9 B ∅ I4 λr5 j _ _ L t=>?_⟩;have t:=S.trans t;rfl'
   by_cases l:r5=1
   ·simp only[l,if_true];∎;exact fin "either" .non kb (.eith .non kb) j AE rfl (λ_=>.inr (.inl ⟨rfl,gb⟩)) (λh=>absurd h ∅) (λc d e=>by rcases e with e|e|e<;>cases e;exact⟨rfl,rfl⟩) ∎ ∎ trivial p (BU _) v L t
   ·simp only[l,if_false];∎;refine⟨by rw[B.next];rfl,z9 B ∅ L λr6 st6 _ _ I6 V=>?_⟩;have V:=t.trans V;rfl'
    by_cases l:r6=1
    ·simp only[l,if_true];∎;exact fin "either" ka .non (.eith ka .non) st6 AE rfl (λ_=>.inr (.inr ⟨ga,rfl⟩)) (λh=>absurd h ∅) (λc d e=>by rcases e with e|e|e<;>cases e;exact⟨rfl,rfl⟩) ∎ ∎ s trivial A (BU _) I6 V
    ·simp only[l,if_false];rfl';exact fin "either" ka kb (.eith ka kb) st6 AE rfl (λ_=>.inl ⟨ga,gb⟩) (λh=>absurd h ∅) (λc d e=>by rcases e with e|e|e<;>cases e;exact⟨rfl,rfl⟩) ∎ ∎ s p A v I6 V
  ·∎;exact fin "both" ka kb (.both ka kb) st4 AE rfl (λ_=>⟨ga,gb⟩) (λh=>absurd h ∅) (λc d e=>by rcases e with e|e|e<;>cases e;exact⟨rfl,rfl⟩) ∎ ∎ s p A v I4 S
  ·rfl';refine⟨by rw[B.next];rfl,z9 B ∅ I4 λr5 j _ _ L t=>?_⟩;have t:=S.trans t;rfl'
   by_cases l:r5=1
   ·simp only[l,if_true];∎;exact fin "way" .non kb (.way .non kb) j AE rfl (λh=>absurd rfl h) (λ_=>⟨rfl,.inr rfl,gb⟩) (λc d e=>by rcases e with e|e|e<;>cases e;exact⟨rfl,rfl⟩) ∎ ∎ trivial p (BU _) v L t
   ·simp only[l,if_false];∎;exact fin "way" ka kb (.way ka kb) j AE rfl (λh=>absurd rfl h) (λ_=>⟨rfl,.inl ga,gb⟩) (λc d e=>by rcases e with e|e|e<;>cases e;exact⟨rfl,rfl⟩) ∎ ∎ s p A v L t
end
def ao6{ns:List Int}{lo hi:Option Int}:∃a:List Int,A8 (ns.map D.int) lo hi=a.map D.int/\a.length<=ns.length:=by
 refine⟨(ns.drop (HT.sIx (ns.map D.int).length 0 lo)).take (HT.sIx (ns.map D.int).length (ns.map D.int).length hi-HT.sIx (ns.map D.int).length 0 lo),by unfold A8;rw[KQ,KR],?_⟩;rw[DE,EG];lia
def aw2{lo:Int}:(v5 lo n).length=n:=by simp[v5]
def ci6{b:Int}{k}(h:0<b):0<b^k:=by
 induction k with
 |zero=>simp_all
 |succ k d=>rw[LW];exact Int.mul_pos d h
def bw7(a:List Int)i:p8 i (a.map D.int)=(a.zipIdx i).map λp=>D.tup [.int p.2,.int p.1]:=by
 induction a generalizing i with
 |nil=>rfl
 |cons m a d=>simp only[Ag,p8,d,List.zipIdx_cons]
section
variable (B:PB0 P) 
include B
def cb6{ns:List Int}(hn:2<=n)(hl:ns.length<=63)(h:rdS st a (ns.map D.int))(q:∀p st',o5 st' p->Kp [] st st'->Q (.ref p) st'):sem P G n "_law_deck" [.ref a] st Q:=by
 obtain⟨n,rfl⟩:∃m,n=m+2:=⟨n-2,⋯⟩;refine i8 B.deck rfl [AA (.ref a),AE,AE,AE,AE,AE] rfl ?_;intro p H;have z:a≠p:=h.elim (λh=>l5 h H) (λh=>l5 h H);∎;have V:rdS (b0 st p (.lst [])) a (ns.map D.int):=h.elim (λh=>.inl (j8 h H)) (λh=>.inr (j8 h H));rw[au7 V];obtain⟨M,em,Z⟩:=ao6 (ns:=ns) (lo:=AE) (hi:=AA 63);rw[em];intro s R;have F:p≠s:=l5 f7 R;rfl';refine⟨_,P8,?_⟩;rw[bw7];refine L4 (λl env st'=>∃(C:List (Int×Nat))(v:List Int)(L J I A:Option D),l=C.map (λp=>D.tup [.int (p.2:Nat),.int p.1])/\env=[AA (.ref a),AA (.ref p),L,J,I,A]/\st' p=AA (.lst (v.map D.int))/\v.length+67*C.length<=67*63/\rdS st' s (M.map D.int)/\rdS st' a (ns.map D.int)/\Kp [] st st') ?_ ?_ _ _ _ ?_
 ·rintro env st' ⟨C,v,L,J,I,A,el,rfl,t,E,w,g,K⟩;refine⟨w,?_⟩;∎;rw[v6 (.inl t)];rfl';simp only[AV];refine⟨⋯,?_⟩;refine L4 (λl env st'=>∃(v:List Int)(L J I A:Option D),(∀d∈l,∃i:Int,d=.int i)/\env=[AA (.ref a),AA (.ref p),L,J,I,A]/\st' p=AA (.lst (v.map D.int))/\v.length+l.length<=10000/\rdS st' a (ns.map D.int)/\Kp [] st st') ?_ ?_ _ _ _ ⟨v,_,_,_,_,λd t=>by simp only[v5,DV]at t;obtain⟨i,_,rfl⟩:=t;exact⟨_,rfl⟩,rfl,t,by rw[aw2];lia,g,K⟩
  ·rintro env st' ⟨v,L,J,I,A,el,rfl,t,E,g,K⟩;∎;rw[au7 (.inl t)];intro r y;obtain⟨ks,U,_⟩:=ao6 (ns:=v) (lo:=AE) (hi:=AA 900);rw[U];exact c0 (q r _ ⟨ks,f7⟩ (K.new y))
  ·rintro d ds env st' ih ⟨v,L,J,I,A,el,rfl,t,E,g,K⟩;obtain⟨i,rfl⟩:=el d ∎;simp only[AY]at E;refine⟨trivial,?_⟩;rfl';∎;rw[B0 (.inl t),au7 g];obtain⟨ks,U,_⟩:=ao6 (ns:=ns) (lo:=AE) (hi:=AA 63);rw[U];refine⟨trivial,by rw[B.mixed];rfl,λr y=>cx7 P8 ?_⟩;rfl';refine a68 B _ _ λm=>?_;rw[D6 (j8 t y)];refine⟨D5 (by simp only[AV];lia),?_⟩;have T:p≠r:=l5 t y;refine ih _ _ ⟨v++[m],_,_,_,_,λd t=>el d (by simp[t]),rfl,by rw[f7,Af];rfl,by simp only[Ap,AY,BW];lia,?_,?_⟩
   ·exact g.elim (λh=>.inl (f6 (j8 h y) z)) (λh=>.inr (f6 (j8 h y) z))
   ·intro b o O e;exact f6 (j8 (K b o O e) y) (l5 e H)
 ·rintro d ds env st' ih ⟨C,v,L,J,I,A,el,rfl,t,E,w,g,K⟩;refine⟨w,?_⟩;cases C with
  |nil=>simp at el
  |cons j C=>
   simp only[Ag,Ai]at el;obtain⟨rfl,rfl⟩:=el;simp only[AY]at E;obtain⟨c,k⟩:=j;rfl';∎;refine⟨⟨∅,∅,∅⟩,ci6 ∅,?_⟩;have inn:∀(v:List Int)(u:Int)(st':Sto),st' p=AA (.lst (v.map D.int))->v.length+60+67*C.length<=67*63->rdS st' s (M.map D.int)->rdS st' a (ns.map D.int)->Kp [] st st' ->
     i5 (Zg P G (n+1)) (match J6.body.drop 1 with|.cons (.for _ _ b) _=>b.drop 2|_=>.nil) ⟨t6 (λst'=>rdS st' s (M.map D.int)) (.tup [2,3]) (i5 (Zg P G (n+1)) (match J6.body.drop 1 with|.cons (.for _ _ b) _=>b|_=>.nil)) ⟨i5 (Zg P G (n+1)) (J6.body.drop 2) (j9 Q),(j9 Q).rt,(j9 Q).bk,(j9 Q).ct⟩ (C.map (λp=>D.tup [.int (p.2:Nat),.int p.1])),(j9 Q).rt,i5 (Zg P G (n+1)) (J6.body.drop 2) (j9 Q),t6 (λst'=>rdS st' s (M.map D.int)) (.tup [2,3]) (i5 (Zg P G (n+1)) (match J6.body.drop 1 with|.cons (.for _ _ b) _=>b|_=>.nil)) ⟨i5 (Zg P G (n+1)) (J6.body.drop 2) (j9 Q),(j9 Q).rt,(j9 Q).bk,(j9 Q).ct⟩ (C.map (λp=>D.tup [.int (p.2:Nat),.int p.1]))⟩ [AA (.ref a),AA (.ref p),AA (.int (k:Nat)),AA (.int c),AA (.int u),A] st':=by
    intro v u st' t E w g K;simp only[J6,Ss.drop];∎;refine⟨∅,?_⟩;refine L4 (λl env st'=>∃(v:List Int)(u:Int)(A:Option D),env=[AA (.ref a),AA (.ref p),AA (.int (k:Nat)),AA (.int c),AA (.int u),A]/\st' p=AA (.lst (v.map D.int))/\v.length+l.length+67*C.length<=67*63/\rdS st' s (M.map D.int)/\rdS st' a (ns.map D.int)/\Kp [] st st') ?_ ?_ _ _ _ ⟨v,u,_,rfl,t,by rw[aw2];exact E,w,g,K⟩
    ·rintro env st' ⟨v,u,A,rfl,t,E,w,g,K⟩;refine⟨trivial,?_⟩;rfl';exact ih _ _ ⟨C,v,_,_,_,_,rfl,rfl,t,by simpa using E,w,g,K⟩
    ·rintro d ds env st' ih2 ⟨v,u,A,rfl,t,E,w,g,K⟩;refine⟨trivial,?_⟩;simp only[AY]at E;rfl';∎
     by_cases W:0<u
     ·simp only[W,if_true];∎;rw[B0 (.inl t)];refine⟨trivial,∅,?_⟩;rw[D6 t];refine⟨D5 (by simp only[AV];lia),?_⟩;∎;refine⟨⟨∅,∅⟩,ih2 _ _ ⟨v++[u % 2147483647],_,_,rfl,by rw[f7,Af];rfl,by simp only[Ap,AY,BW];lia,?_,?_,?_⟩⟩
      ·exact w.elim (λh=>.inl (f6 h F.symm)) (λh=>.inr (f6 h F.symm))
      ·exact g.elim (λh=>.inl (f6 h z)) (λh=>.inr (f6 h z))
      ·intro b o O e;exact f6 (K b o O e) (l5 e H)
     ·simp only[W,if_false];rfl';exact ih2 _ _ ⟨v,_,_,rfl,t,⋯,w,g,K⟩
   ∎;refine⟨⟨∅,∅,∅⟩,?_⟩;generalize(if c<0 then -c else c) % (2147483647:Int)^Hz 60=u
   by_cases S:u<10^Hz 18
   ·simp only[S,if_true];∎;rw[B0 (.inl t)];refine⟨trivial,∅,∅,?_⟩;refine R9 (λl acc env' st''=>st''=st'/\∃(N:List Int)(x:Option D),(∀d∈l,∃i:Int,d=.int i)/\env'=[AA (.int u),AA (.int (k:Nat)),x]/\acc=N.map D.int/\N.length+l.length=7) ?_ ?_ _ _ _ _ ⟨rfl,[],AE,λd t=>by simp only[v5,DV]at t;obtain⟨i,_,rfl⟩:=t;exact⟨_,rfl⟩,rfl,rfl,∅⟩
    ·rintro acc env' st'' ⟨rfl,N,x,_,rfl,rfl,hac⟩;refine⟨trivial,λr y=>?_⟩;simp only[BW]at hac;rw[bj9 (j8 t y) f7];refine⟨aa5 (by simp only[AV];lia),?_⟩;∎;have T:p≠r:=l5 t y;refine inn (v++N) 0 _ (by rw[f7,Af]) (by simp only[Ap];lia) ?_ ?_ ?_
     ·exact w.elim (λh=>.inl (f6 (j8 h y) F.symm)) (λh=>.inr (f6 (j8 h y) F.symm))
     ·exact g.elim (λh=>.inl (f6 (j8 h y) z)) (λh=>.inr (f6 (j8 h y) z))
     ·intro b o O e;exact f6 (j8 (K b o O e) y) (l5 e H)
    ·rintro d ds acc env' st'' ihc ⟨rfl,N,x,hi,rfl,rfl,hac⟩;obtain⟨i,rfl⟩:=hi d ∎;refine⟨trivial,?_⟩;rfl';refine⟨by rw[B.mixed];rfl,W0 ⟨∅,∅⟩,a68 B _ _ λm=>ihc _ _ _ ⟨rfl,N++[m],_,λd t=>hi d (by simp[t]),rfl,by rw[Af];rfl,by simp only[Ap,AY,BW]at hac ⊢;lia⟩⟩
   ·simp only[S,if_false];exact inn v u st' t ⋯ w g K
 ·refine⟨M.zipIdx 0,[],AE,AE,AE,AE,rfl,rfl,j8 f7 R,by simp only[List.length_zipIdx,BW];lia,P8,?_,(Kp.refl.new H).new R⟩;exact V.elim (λh=>.inl (j8 h R)) (λh=>.inr (j8 h R))
end
def ax4{b:Type}(l:List b):l=[]\/∃a c,l=a++[c]:=by
 rcases List.eq_nil_or_concat l with h|⟨a,c,h⟩
 ·exact .inl h
 ·exact .inr ⟨a,c,by simp_all⟩
abbrev O1(P:i6)(G:Gs)(n:Nat):D->Spec
 |.fn f=>sem P G n f
 |.clo np N b cs=>G0 P G n np N b cs
 |_=>λ_ _ _=>False
abbrev Cok(P:i6):D->Prop
 |.fn f=>(P f).isSome=AC
 |.clo _ _ _ _=>True
 |_=>False
def a73{ta}{x}(h:Cok P x)(q:ta st λds st1=>O1 P G n x ds st1 Q):T9 (Zg P G n) ta st Q x:=by
 cases x<;>first|exact h.elim|exact⟨h,q⟩|exact q
section
variable {T:Type} (subs:T->List T)
inductive Ord:List T->List T->Prop where
 |nil:Ord [] []
 |cons {S l:List T} {c:T}:Ord (S++subs c) l->Ord (S++[c]) (c::l)
inductive Rn:List T->List T->T->Prop where
 |done (t:T):Rn [] [t] t
 |step {h r:T} {l S:List T}:Rn l (S++[h]) r->Rn (h::l) (S++subs h) r
def ct2{S l}(h:Ord subs S l):∀{a S0}{r},Rn subs a (S0++S) r->Rn subs (l.reverse++a) S0 r:=by
 induction h with
 |nil=>simp_all
 |@cons S l c _ d=>
  intro a S0 r q;rw[Di,Dl];refine d ?_;rw[<-Dl];refine .step ?_;rwa[Dl]
end
def none_of{p}(K:Kp [] st st')(h:st' p=AE):st p=AE:=by
 cases z:st p with
 |none=>rfl
 |some u=>rw[K.at' z ∎]at h;cases h
abbrev ag3(st st':Sto)(d:D)(xs:List D):Prop:=False\/∃a,d=.ref a/\st a=AE/\st' a=AA (.lst xs)
theorem V6{T:Type}(f:T->Nat):∀{l:List T}{c},c∈l->f c<=(l.map f).sum
 |a::l,c,h=>by
  rw[Ag,Dn]
  rcases AR.mp h with rfl|h
  ·lia
  ·have:=V6 f h;lia
theorem aq5{T:Type}{size:T->Nat}{subs:T->List T}(hsz:∀t,size t=1+((subs t).map size).sum):∀l:List T,l.length<=(l.map size).sum
 |[]=>by simp
 |a::l=>by have:=hsz a;have:=aq5 hsz l;simp only[Ag,Dn,AY];lia
def b69{T}{subs}{size}(hsz:∀t,size t=1+((subs t).map size).sum){l S}{r:T}(h:Rn subs l S r):(S.map size).sum<=size r:=by
 induction h with
 |done t=>simp
 |@step h r l S _ a=>
  have:=hsz h;simp only[Af,Dx,Ag,EB,Dn,ID]at a ⊢;lia
structure PM(P:i6)(G:Gs):Prop where
 mop:P "made_of_parts"=AA aj8
 few:P "order_of_few"=AA ak6
 taken:P "taken"=AA aq4
 cst:G.cst "FEW"=AA (.int 2000)
section
variable (T0:PM P G) {T:Type} {enc:T->D} {subs:T->List T} {size:T->Nat} {Do:T->Prop}
include T0
def cn8{J:Sto->Prop}(N:∀{E g i},J E->st i=AE->i∉L->Kp [i] E g->J g)(j0:J st)(Z:∀{st},J st->∀a∈L,∃o,st a=AA o)(hsz:∀t,size t=1+((subs t).map size).sum)(hg:∀t,Do t->∀c∈subs t,Do c){F:D}(hF:Cok P F)(t:T)(hs:size t<=2000)(X:Do t)
  (W:∀c f Q,Do c->J f->Kp L st f->(∀d g,ag3 f g d ((subs c).map enc)->J g->Kp L f g->Q d g)->O1 P G n F [enc c] f Q)
  (q:∀a f l,st a=AE->Ord subs [t] l->(∀c∈l,Do c)->f a=AA (.lst (l.map λc=>.tup [enc c,.int (subs c).length]))->J f->Kp L st f->l.length<=size t->Q (.ref a) f):sem P G (n+1) "order_of_few" [enc t,F] st Q:=by
 have H:∀{p:AI},st p=AE->p∉L:=λ{p}W z=>by
  obtain⟨o,e⟩:=Z j0 p z;rw[W]at e;cases e
 refine i8 T0.few rfl [AA (enc t),AA F,AE,AE,AE,AE] rfl ?_;intro o v;∎;intro h C;have r:o≠h:=l5 f7 C;have j:st h=AE:=by
  cases z:st h with
  |none=>rfl
  |some u=>rw[j8 z v]at C;cases C
 have A:=H v;have s:=H j;refine bw6 (λm env f=>∃(i S:List T)(x y:Option D),env=[AA (enc t),AA F,AA (.ref o),AA (.ref h),x,y]/\f o=AA (.lst (i.map λc=>.tup [enc c,.int (subs c).length]))/\f h=AA (.lst (S.map enc))/\(∀l,Ord subs S l->Ord subs [t] (i++l))/\(∀c∈i,Do c)/\(∀c∈S,Do c)/\(S.map size).sum=m/\i.length+m=size t/\J f/\Kp L st f) ?_ _ _ _ ⟨[],[t],AE,AE,rfl,j8 f7 C,f7,λl z=>z,∎,by simpa using X,rfl,∎,N (N j0 v A (Kp.refl.new v)) j s (Kp.refl.new C),(Kp.refl.new v).new C⟩;rintro m env f _ ⟨i,S,x,y,rfl,h1,h2,h3,gd,gS,h4,h5,Js,K⟩ ih;rw[cg2];rfl';rw[v6 (.inl h2)];rfl'
 rcases ax4 S with rfl|⟨S,c,rfl⟩
 ·∎;refine c0 (q o f i v ?_ gd h1 Js K ⋯);have:=h3 [] .nil;simpa using this
 ·rw[if_pos (by simp only[Af,Ag,EB,Ap,AV,AY,BW];lia)];rw[Af,Ag,EB]at h2;simp only[Af,Ag,EB,Dx,Dn,ID]at h4;have sc:=hsz c;have gc:Do c:=gS c ∎;have w:∀l:List T,l.length<=(l.map size).sum:=λl=>by
   induction l with
   |nil=>simp
   |cons a l ih=>have:=hsz a;simp only[Ag,Dn,AY];lia
  have hl3:=w S;have hl4:=w (subs c);∎;rw[ab4 h2];have O:b0 f h (.lst (S.map enc)) o=AA (.lst (i.map λc=>.tup [enc c,.int (subs c).length])):=f6 h1 r;∎;refine a73 hF ?_;rfl';have K1:Kp L st (b0 f h (.lst (S.map enc))):=λb u U e=>f6 (K b u U e) (λz=>by rw[z,j]at e;cases e);have J1:J (b0 f h (.lst (S.map enc))):=N Js j s (Kp.refl.put ∎);refine W c _ _ gc J1 K1 λd g hd Js2 K2=>?_;have o2:=K2.at' O A;have s2:=K2.at' (f7 (st:=f) (a:=h) (o:=.lst (S.map enc))) s;∎;rw[B0 (.inl o2)];have B:∀{R:DK},R (.int (subs c).length) g->U9 d g R:=λ{R}z=>by
   obtain⟨a,rfl,_,Y⟩:=hd.resolve_left id;rw[v6 (.inl Y)];simpa using z
  refine⟨trivial,B ?_⟩;rw[D6 o2];refine⟨D5 (by simp only[AV];lia),?_⟩;∎;have s3:b0 g o (.lst ((i.map λc=>D.tup [enc c,.int (subs c).length])++[.tup [enc c,.int (subs c).length]])) h=AA (.lst (S.map enc)):=f6 s2 r.symm;rw[B0 (.inl s3)];have I:∀{R:DK},R .non (b0 (b0 g o (.lst ((i.map λc=>D.tup [enc c,.int (subs c).length])++[.tup [enc c,.int (subs c).length]]))) h (.lst (S.map enc++(subs c).map enc)))->ac6 (.ref h) d (b0 g o (.lst ((i.map λc=>D.tup [enc c,.int (subs c).length])++[.tup [enc c,.int (subs c).length]]))) R:=λ{R}z=>by
   obtain⟨a,rfl,M,Y⟩:=hd.resolve_left id;have V:a≠o:=λz=>by rw[z,O]at M;cases M
   rw[bj9 s3 (f6 Y V)];exact⟨aa5 (by simp only[AV];lia),z⟩
  refine⟨trivial,I ?_⟩;∎;rw[v6 (.inl (f6 f7 r))];rfl';refine⟨.int 2000,T0.cst,?_⟩;rfl';rw[if_neg (by simp only[Ap,AV,AY,BW];lia)];rfl';refine ih ((S++subs c).map size).sum _ _ (by simp only[Af,Dx];lia) ⟨i++[c],S++subs c,_,_,rfl,?_,?_,?_,?_,?_,rfl,?_,N (N Js2 v A (Kp.refl.put ∎)) j s (Kp.refl.put ∎),?_⟩
  ·rw[Af];exact f6 f7 r
  ·rw[Af];exact f7
  ·intro l hl;have:=h3 (c::l) (.cons hl);simpa using this
  ·intro z k
   rcases Bf.mp k with k|k
   ·exact gd z k
   ·simp at k;rw[k];exact gc
  ·intro z k
   rcases Bf.mp k with k|k
   ·exact gS z (by simp[k])
   ·exact hg c gc z k
  ·simp only[Ap,AY,BW,Af,Dx];lia
  ·intro b u U e;have eh:b≠h:=λz=>by rw[z,j]at e;cases e
   have eo:b≠o:=λz=>by rw[z,v]at e;cases e
   exact f6 (f6 (K2.at' (K1 b u U e) U) eo) eh
def by9{j:List D}(t:j.length=m)(p:st dn=AA (.lst (ds++j)))(w:j.length<=2000)
  (q:∀a f,st a=AE->a≠dn->f a=AA (.lst j)->f dn=AA (.lst ds)->Kp [dn] st f->Q (.ref a) f):sem P G (n+1) "taken" [.ref dn,.int m] st Q:=by
 subst t;refine i8 T0.taken rfl [AA (.ref dn),AA (.int j.length),AE,AE] rfl ?_;intro o r;have k:dn≠o:=l5 p r;∎;refine⟨⟨⋯,⋯⟩,?_⟩;refine L4 (λl env f=>∃(g h:List D)(x:Option D),j=g++h/\l.length=g.length/\(∀d∈l,∃i,d=.int i)/\env=[AA (.ref dn),AA (.int j.length),AA (.ref o),x]/\f dn=AA (.lst (ds++g))/\f o=AA (.lst h.reverse)/\Kp [dn] st f) ?_ ?_ _ _ _ ⟨j,[],AE,∎,by simp[v5],λd p=>by simp[v5]at p;obtain⟨i,_,rfl⟩:=p;exact⟨_,rfl⟩,rfl,by rw[j8 p r],f7,Kp.refl.new r⟩
 ·rintro env f ⟨g,h,x,e,hl,_,rfl,h1,h2,K⟩;have:g=[]:=by simpa using hl.symm
  subst this;subst e;∎;rw[c49 h2];∎;refine c0 (q o _ r (λz=>k z.symm) ?_ (f6 (by simpa using h1) k) λb u nb e=>f6 (K b u nb e) (λz=>by rw[z,r]at e;cases e));rw[f7,IX]
 ·rintro d0 dl env f ih ⟨g,h,x,e,hl,hi,rfl,h1,h2,K⟩;rcases ax4 g with rfl|⟨g,c,rfl⟩
  ·simp at hl
  rfl';∎;rw[B0 (.inl h2),ab4 (by rw[h1,Dl]:f dn=AA (.lst ((ds++g)++[c])))];have s:b0 f dn (.lst (ds++g)) o=AA (.lst h.reverse):=f6 h2 k.symm;rw[D6 s];have v:h.length<=j.length:=by rw[e];simp;lia
  refine⟨trivial,D5 (by rw[Ij];lia),?_⟩;rfl';refine ih _ _ ⟨g,c::h,_,by rw[e];simp,by simp at hl ⊢;lia,λd p=>hi d (by simp[p]),rfl,f6 f7 k,by rw[f7,Di],λb u nb e=>f6 (f6 (K b u nb e) (λz=>nb (by simp[z]))) (λz=>by rw[z,r]at e;cases e)⟩
abbrev KpN(L:List AI)(st st':Sto):Prop:=∀b o,b∉L->(∀c fs,o≠.ins c fs)->st b=AA o->st' b=AA o
def bd5{J:Sto->Prop}{L:List AI}(hJ:∀{m g i},J m->st i=AE->i∉L->Kp [i] m g->J g)(j0:J st)(B:∀{st},J st->∀a∈L,∃o,st a=AA o)(hsz:∀t,size t=1+((subs t).map size).sum)(hg:∀t,Do t->∀c∈subs t,Do c){F:D}(hF:Cok P F)(hM:Cok P M)(t:T)(hs:size t<=2000)(hgt:Do t){Y:AI->List T->List D->Sto->Prop}(hYL:∀{i S ds m},Y i S ds m->∀a∈L,∃o,m a=AA o)
  (hY0:∀i st',st i=AE->J st'->Kp L st st'->Y i [] [] st') (R:∀{i S ds m g},st i=AE->Y i S ds m->Kp [i] m g->Y i S ds g)
  (E:∀c st' Q,Do c->J st'->Kp L st st'->(∀d g,ag3 st' g d ((subs c).map enc)->J g->Kp L st' g->Q d g)->O1 P G n F [enc c] st' Q)
  (hm:∀c i la st' Q S ds x,Do c->Kp L st st'->st i=AE->la∉L->la≠i->st la=AE->st' la=AA (.lst x)->x.length=(subs c).length->ds.length=S.length->Y i (S++subs c) (ds++x) st'->st' i=AA (.lst ds)->(S.map size).sum+size c<=size t->(∀d g,Y i (S++[c]) (ds++[d]) g->KpN L st' g->Kp L st g->Q d g)->O1 P G (n+1) M [enc c,.ref la] st' Q)
  (q:∀i d st',st i=AE->Y i [t] [d] st'->Kp L st st'->Q d st'):sem P G (n+2) "made_of_parts" [enc t,F,M] st Q:=by
 refine i8 T0.mop rfl [AA (enc t),AA F,AA M,AE,AE,AE,AE] rfl ?_;∎;refine⟨by rw[T0.few];rfl,cn8 T0 (Do:=λc=>Do c/\size c<=2000) (J:=J) (L:=L) hJ j0 B hsz (λc gc c' hc'=>⟨hg c gc.1 c' hc',Ax (V6 size hc') (by have:=hsz c;lia)⟩) hF t hs ⟨hgt,hs⟩ (λc st' Q gc=>E c st' Q gc.1) λoa m l hoa0 hord gl hoa Js1 K1 hl=>?_⟩;have hL:=B j0;∎;refine .inr ⟨nofun,?_⟩;intro i r;have H:oa≠i:=l5 hoa r;have j:st i=AE:=by
  cases e:st i with
  |none=>rfl
  |some u=>
   by_cases z:i∈L
   ·obtain⟨o,e⟩:=B Js1 i z;rw[r]at e;cases e
   ·rw[K1.at' e z]at r;cases r
 have O:i∉L:=λz=>by obtain⟨o,e⟩:=hL i z;rw[j]at e;cases e
 have Z:oa∉L:=λz=>by obtain⟨o,e⟩:=hL oa z;rw[hoa0]at e;cases e
 ∎;refine⟨_,.inl (j8 hoa r),?_⟩;rw[<-JU];have X:∀(u:Ob)(g:Sto),Kp L st g->Kp L st (b0 g i u):=λu g K b o nb e=>f6 (K b o nb e) (λz=>by rw[z,j]at e;cases e);refine L4 (λll env st'=>∃(w S:List T)(ds:List D)(W V:Option D),ll=w.map (λc=>D.tup [enc c,.int (subs c).length])/\(∀c∈w,Do c/\size c<=2000)/\Rn subs w S t/\env=[AA (enc t),AA F,AA M,AA (.ref oa),AA (.ref i),W,V]/\st' i=AA (.lst ds)/\ds.length=S.length/\S.length+w.length<=100000/\Y i S ds st'/\st' oa=AA (.lst (l.map λc=>.tup [enc c,.int (subs c).length]))/\Kp L st st') ?_ ?_ _ _ _ ⟨l.reverse,[],[],AE,AE,rfl,λc hc=>gl c (by simpa using hc),by simpa using ct2 subs hord (.done t) (S0:=[]) ,rfl,f7,rfl,by simp;lia,hY0 i _ j (hJ Js1 j O (Kp.refl.new r)) (K1.new r),j8 hoa r,(K1.new r).more ∎⟩
 ·rintro env st' ⟨w,S,ds,W,V,el,_,C,rfl,hd,hl',_,hv,hoa',K⟩;have es:w=[]:=by simpa using el.symm
  subst es;refine⟨.inl hoa',?_⟩;cases C;obtain⟨d,rfl⟩:∃d,ds=[d]:=by match ds,hl' with|[d],_=>exact⟨d,rfl⟩
  ∎;rw[l6 (.inl hd)];exact⟨d,rfl,c0 (q i d st' j hv K)⟩
 ·rintro d0 dl env st' ih ⟨w,S,ds,W,V,el,hin,C,rfl,hd,hl',hb,hv,hoa',K⟩;refine⟨.inl hoa',?_⟩;cases w with
  |nil=>simp at el
  |cons h w=>
   simp only[Ag,Ai]at el;obtain⟨rfl,rfl⟩:=el;simp only[AY]at hb;have gh:Do h:=(hin h ∎).1;cases C with
   |@step _ _ _ S C=>
   simp only[Ap]at hl' hb;obtain⟨ds,x,rfl,N,I⟩:∃U x,ds=U++x/\U.length=S.length/\x.length=(subs h).length:=⟨ds.take S.length,ds.drop S.length,(FR _ _).symm,by rw[DE];lia,by rw[EG];lia⟩;have hss:(subs h).length<=2000:=by
    have h1:=(hin h ∎).2;have h2:=hsz h;have h3:=aq5 hsz (subs h);lia
   have A:∀la g,la∉L->la≠i->st la=AE->g la=AA (.lst x)->g i=AA (.lst ds)->Kp [i] st' g->O1 P G (n+1) M [enc h,.ref la] g λd st3=>ab9 (.ref i) d st3 λ_ st4=>t6 (λst'=>rdS st' oa (l.map λc=>.tup [enc c,.int (subs c).length])) (.tup [5,6]) (i5 (Zg P G (n+1)) (.cons (.ex (.app (.v 4) (.callv 2 (.cons (.v 5) (.cons (.ite (.cmp .Gt (.v 6) (.int 0)) (.call "taken" (.cons (.v 4) (.cons (.v 6) .nil))) (.lst .nil)) .nil))))) .nil)) ⟨i5 (Zg P G (n+1)) (.cons (.ret (.ix (.v 4) (.int 0))) .nil) (j9 Q),(j9 Q).rt,(j9 Q).bk,(j9 Q).ct⟩ (w.map λc=>D.tup [enc c,.int (subs c).length]) [AA (enc t),AA F,AA M,AA (.ref oa),AA (.ref i),AA (enc h),AA (.int (subs h).length)] st4:=λla g k hne hl0 hl2 hd2 K2=>by
    have KK:Kp L st g:=λb u nb e=>K2.at' (K b u nb e) (by simp;exact λz=>by rw[z,j]at e;cases e);refine hm h i la g _ S ds x gh KK j k hne hl0 hl2 I N (R j hv K2) hd2 (by have:=b69 hsz C;simpa using this) λd st3 vd N3 K3=>?_;have hd3:=N3 i _ O (λ_ _ z=>by cases z) hd2;rw[D6 hd3];refine⟨D5 ⋯,?_⟩;exact ih _ _ ⟨w,S++[h],ds++[d],_,_,rfl,λc hc=>hin c (by simp[hc]),C,rfl,f7,by simp[N],by simp;lia,R j vd (Kp.refl.put ∎),f6 (N3 oa _ Z (λ_ _ z=>by cases z) (K2.at' hoa' (by simpa using H))) H,X _ _ K3⟩
   have y:∀{p:AI},st' p=AE->p∉L/\st p=AE:=λ{p}E=>by
    by_cases z:p∈L
    ·obtain⟨o,e⟩:=hYL hv p z;rw[E]at e;cases e
    ·refine⟨z,?_⟩;cases e:st p with
     |none=>rfl
     |some u=>rw[K.at' e z]at E;cases E
   rfl';∎;rw[B0 (.inl hd)];refine⟨trivial,a73 hM ?_⟩;rfl'
   by_cases h0:(subs h).length=0
   ·rw[if_neg ⋯];intro la k;have exs:x=[]:=Bd ⋯;subst exs;exact A la _ (y k).1 (l5 hd k).symm (y k).2 f7 (j8 (by simpa using hd) k) (Kp.refl.new k)
   ·rw[if_pos ⋯];refine⟨by rw[T0.taken];rfl,?_⟩;exact by9 T0 I hd ⋯ λla g k hne hl2 hd2 K2=>A la g (y k).1 hne (y k).2 hl2 hd2 K2
def cb2{W:Type}{J:W->Sto->Prop}{le:W->W->Prop}{L:List AI}(N:∀s,le s s)(I:∀{s t u},le s t->le t u->le s u)(U:∀{s st st' dn},J s st->dn∉L->Kp [dn] st st'->J s st')(hsz:∀t,size t=1+((subs t).map size).sum)(hg:∀t,Do t->∀c∈subs t,Do c){F:D}(hF:Cok P F)(hM:Cok P M)(t:T)(Z:size t<=2000)(H:Do t){V:AI->W->T->D->Sto->Prop}(R:∀{dn s s' k d st st'},V dn s k d st->le s s'->Kp (dn::L) st st'->V dn s' k d st')
  {l:W} {μ:W->Nat} {B:Nat} (hB:μ l+size t<=B) (O:J l st) (p:∀{s st},J s st->∀a∈L,∃o,st a=AA o)
  (hp:∀c st' Q s,Do c->μ s+1<=B->J s st'->Kp L st st'->(∀d s' g,ag3 st' g d ((subs c).map enc)->le s s'->μ s'<=μ s->J s' g->Kp L st' g->Q d g)->O1 P G n F [enc c] st' Q)
  (hm:∀c dn m st' Q ds s,Do c->μ s+1<=B->J s st'->Kp L st st'->st dn=AE->m∉L->m≠dn->st m=AE->st' m=AA (.lst ds)->ds.length=(subs c).length->(∀(i:Nat)A d,(subs c)[i]?=AA A->ds[i]?=AA d->V dn s A d st')->(∃C,st' dn=AA (.lst C))->(∀d s' g,V dn s' c d g->le s s'->μ s'<=μ s+1->J s' g->Kp L st' g->Q d g)->O1 P G (n+1) M [enc c,.ref m] st' Q)
  (q:∀dn d s' st',st dn=AE->V dn s' t d st'->le l s'->μ s'<=B->J s' st'->Kp L st st'->Q d st'):sem P G (n+2) "made_of_parts" [enc t,F,M] st Q:=by
 refine bd5 T0 (J:=λst'=>∃s,J s st'/\le l s/\μ s<=μ l) (L:=L) (λ⟨s,w,r⟩_ a b=>⟨s,U w a b,r⟩) ⟨l,O,N l,AX _⟩ (λ⟨s,h,_⟩=>p h) hsz hg hF hM t Z H (Y:=λdn S ds st'=>∃s,J s st'/\le l s/\μ s<=μ l+(S.map size).sum/\dn∉L/\∀(i:Nat)c d,S[i]?=AA c->ds[i]?=AA d->V dn s c d st') (λ⟨s,h,_⟩=>p h)
  (λdn st' h⟨s,a,b,c⟩_=>⟨s,a,b,c,(λz=>by obtain⟨o,e⟩:=p O dn z;rw[h]at e;cases e),nofun⟩) (λ_⟨s,a,b,c,d,e⟩K=>⟨s,U a d K,b,c,d,λi x y w r=>R (e i x y w r) (N s) (K.more ∎)⟩)
  (λc st' Q gc⟨s,a,b,e⟩K k=>hp c st' Q s gc (by have:=hsz t;lia) a K λd s' g w r h3 h4=>k d g w ⟨s',h4,I b r,⋯⟩)
  (λc dn m st' Q S ds C gc K h0 w r h3 h4 h5 h6 hY h7 h8 k=>?_) λdn d st' h0⟨s,a,b,e,_,v⟩K=>q dn d s st' h0 (v 0 t d rfl rfl) b (by simp at e;lia) a K
 obtain⟨s,a,b,e,dL,v⟩:=hY;have sc:=hsz c;rw[Af,Dx]at e;refine hm c dn m st' Q C s gc ⋯ a K h0 w r h3 h4 h5 (λi A d e1 e2=>v (S.length+i) A d (by rw[An ⋯,DU];exact e1) (by rw[An ⋯,h6,DU];exact e2)) ⟨_,h7⟩ λd s' g vd hle hμ Js K2=>k d g ⟨s',Js,I b hle,by simp only[Af,Ag,EB,Dx,Dn,ID];lia,dL,λi A d' e1 e2=>?_⟩ (λb o nb _ e=>K2 b o nb e) (K.trans K2)
 by_cases hi:i<S.length
 ·rw[Aa hi]at e1;rw[Aa ⋯]at e2;exact R (v i A d' (by rw[Aa hi];exact e1) (by rw[Aa ⋯];exact e2)) hle (K2.more (by intro x X;simp[X]))
 ·rw[An ⋯]at e1;rw[An ⋯]at e2;have E:i-S.length=0:=by
   have:=(AT.mp e1).1;simp at this;lia
  rw[E]at e1;rw[show i-ds.length=0 by lia]at e2;cases e1;cases e2;exact vd
end
mutual
noncomputable def D.lit:D->Bool
 |.int _=>AC
 |.str x=>FF (.str x)
 |.tup ds=>D.lits ds
 |_=>AG
noncomputable def D.lits:List D->Bool
 |[]=>AC
 |d::r=>d.lit&&D.lits r
end
mutual
theorem ba9:∀x y:D,x.lit=AC->y.lit=AC->(deq x y=AC↔x=y)
 |.int i,y,hx,hy=>by
  cases y<;>first|(simp[D.lit]at hy;done)|skip
  ·rw[ap9];simp
  ·constructor
   ·intro h;simp[deq,D.py,As]at h
   ·intro h;cases h
  ·constructor
   ·intro h;simp[deq,D.py,As]at h
   ·intro h;cases h
 |.str x,y,hx,hy=>by
  cases y<;>first|(simp[D.lit]at hy;done)|skip
  ·constructor
   ·intro h;simp[deq,D.py,As]at h
   ·intro h;cases h
  ·rw[J9];simp
  ·constructor
   ·intro h;simp[deq,D.py,As]at h
   ·intro h;cases h
 |.tup xs,y,hx,hy=>by
  cases y<;>first|(simp[D.lit]at hy;done)|skip
  ·constructor
   ·intro h;simp[deq,D.py,As]at h
   ·intro h;cases h
  ·constructor
   ·intro h;simp[deq,D.py,As]at h
   ·intro h;cases h
  ·rename_i ys;rw[V7,a88 xs ys hx hy];simp
 |.non,y,hx,hy=>nomatch hx
 |.bl _,y,hx,hy=>nomatch hx
 |.ref _,y,hx,hy=>nomatch hx
 |.fn _,y,hx,hy=>nomatch hx
theorem a88:∀xs ys:List D,D.lits xs=AC->D.lits ys=AC->(E1 xs ys=AC↔xs=ys)
 |[],[],_,_=>by simp[E1]
 |[],y::ys,_,_=>by simp[E1]
 |x::xs,[],_,_=>by simp[E1]
 |x::xs,y::ys,hx,hy=>by
  have h1:x.lit=AC/\D.lits xs=AC:=by simpa[D.lits]using hx
  have h2:y.lit=AC/\D.lits ys=AC:=by simpa[D.lits]using hy
  rw[E1,BD,ba9 x y h1.1 h2.1,a88 xs ys h1.2 h2.2,Ai]
end
def af0:D.lits ds=AC↔∀d∈ds,d.lit=AC:=by
 induction ds with
 |nil=>simp[D.lits]
 |cons d r c=>simp[D.lits,c]
def aw4(s:String):(D.str (Ab s)).lit=AC:=E4 s
def ap4:(D.tup ds).lit=D.lits ds:=rfl
def ay8{d:D}{r:List D}:D.lits (d::r)=(d.lit&&D.lits r):=rfl
def bz8:D.lits []=AC:=rfl
theorem an3{f:Type}:∀{l:List f},l.Nodup->∀(i j:Nat)(x:f),l[i]?=AA x->l[j]?=AA x->i=j
 |[],_,i,j,x,h,_=>by simp at h
 |a::l,g,i,j,x,hi,e=>by
  have d:=BR.mp g;cases i with
  |zero=>
   cases j with
   |zero=>rfl
   |succ j=>
    simp at hi;subst hi;exact absurd (Az (by simpa using e)) d.1
  |succ i=>
   cases j with
   |zero=>
    simp at e;subst e;exact absurd (Az (by simpa using hi)) d.1
   |succ j=>rw[an3 d.2 i j x (by simpa using hi) (by simpa using e)]
structure PSh(P:i6)(G:Gs):Prop extends PM P G where
 init:P (c9 "Shelf" "__init__")=AA aj4
 laid:P (c9 "Shelf" "laid")=AA al6
 numb:P (c9 "Shelf" "numbered")=AA aj7
 tup:P (c9 "Shelf" "tuple_at")=AA aj5
 word:P (c9 "Shelf" "word_at")=AA ak1
 wthn:P (c9 "Shelf" "within")=AA al0
 tin:P "tuples_in"=AA am3
 cls:G.cls "Shelf"=[("numbers":Str),("stored":Str),("parts":Str),("waiting":Str)]
 kt:G.cls "!kt"≠[]
abbrev B4(ns:List Nat):D:=.tup (ns.map λ(n:Nat)=>D.int (n:Int))
structure It3 where
 fr:List D
 ns:List Nat
 t:D
variable{e:It3}{S':List It3}
abbrev It3.key(e:It3):D:=.tup [.tup e.fr,B4 e.ns]
inductive Lay:D->Prop where
 |mk {fr inn:List D}:(∀d∈fr,∃s:String,d=.str s)->(∀d∈inn,Lay d)->fr.length<=10->inn.length<=1000->Lay (.tup (fr++inn))
structure Wf(S:List It3):Prop where
 wh:∀(i:Nat)(e:It3),S[i]?=AA e->(∀d∈e.fr,∃s:String,d=.str s)/\∃inn,e.t=.tup (e.fr++inn)/\inn.length=e.ns.length/\∀(j n:Nat),e.ns[j]?=AA n->n<i/\∃e',S[n]?=AA e'/\inn[j]?=AA e'.t
 nd:(S.map It3.key).Nodup
structure ShA(sh dn sa pa wa:AI)(S:List It3)(st:Sto):Prop where
 ins:st sh=AA (.ins "Shelf" [(("numbers":Str),D.ref dn),(("stored":Str),D.ref sa),(("parts":Str),D.ref pa),(("waiting":Str),D.ref wa)])
 num:st dn=AA (.dtt (S.mapIdx λi e=>(e.key.py,.int i)))
 sto:st sa=AA (.lst (S.map It3.t))
 par:st pa=AA (.lst (S.map λe=>B4 e.ns))
 wai:∃o,st wa=AA o
 wf:Wf S
 ml:S.length<=1000000
 fl:∀e∈S,e.fr.length<=10/\e.ns.length<=1000
def a95{a inn inn'}(g:∀d∈fr,∃s:String,d=.str s)(f:∀d∈a,∃s:String,d=.str s)(k:∀d∈inn,∃l,d=.tup l)(j:∀d∈inn',∃l,d=.tup l)(h:fr++inn=a++inn'):fr=a/\inn=inn':=by
 induction fr generalizing a with
 |nil=>
  cases a with
  |nil=>exact⟨rfl,h⟩
  |cons x a=>
   obtain⟨s,rfl⟩:=f x ∎;rw[Fi,Cb]at h;obtain⟨l,e⟩:=k (.str s) (by rw[h];simp);cases e
 |cons x fr i=>
  cases a with
  |nil=>
   obtain⟨s,rfl⟩:=g x ∎;rw[Fi]at h;obtain⟨l,e⟩:=j (.str s) (by rw[<-h];simp);cases e
  |cons y a=>
   rw[Cb,Cb,Ai]at h;obtain⟨rfl,h⟩:=h;obtain⟨rfl,rfl⟩:=i (λd hd=>g d (by simp[hd])) (λd hd=>f d (by simp[hd])) h;exact⟨rfl,rfl⟩
theorem Wf.inn{S}(w:Wf S)(h:S[i]?=AA e):∃inn,e.t=.tup (e.fr++inn)/\inn.length=e.ns.length/\(∀d∈inn,∃l,d=.tup l)/\∀(j n:Nat),e.ns[j]?=AA n->n<i/\∃a,S[n]?=AA a/\inn[j]?=AA a.t:=by
 obtain⟨_,inn,p,o,m⟩:=w.wh i e h;refine⟨inn,p,o,λd hd=>?_,m⟩;obtain⟨j,k⟩:=FT.mp hd;have b:j<e.ns.length:=(o▸(AT.mp k).1)
 obtain⟨_,a,c,hi⟩:=m j _ (AO b);rw[k]at hi;obtain⟨_,g,f,_⟩:=w.wh _ a c;cases hi;exact⟨_,f⟩
def Wf.inj{S:List It3}(w:Wf S):∀(m:Nat){i j:Nat}{e a:It3},i<=m->S[i]?=AA e->S[j]?=AA a->e.t=a.t->i=j:=by
 intro m
 induction m using Nat.strongRecOn with
 |ind m x=>
 intro i j e a y hi l r;obtain⟨inn,C,s,B,A⟩:=w.inn hi;obtain⟨b,q,d,p,o⟩:=w.inn l;rw[C,q]at r;have g:e.fr++inn=a.fr++b:=by injection r
 obtain⟨H,G⟩:=a95 (w.wh i e hi).1 (w.wh j a l).1 B p g;subst G;have E:e.ns=a.ns:=by
  refine HL λk=>?_
  by_cases h:k<e.ns.length
  ·have c:k<a.ns.length:=by rw[<-d,s];exact h
   obtain⟨J,f,z,D⟩:=A k _ (AO h);obtain⟨I,K,n,u⟩:=o k _ (AO c);rw[D]at u;have:=x e.ns[k] ⋯ (AX _) z n (by injection u);rw[AO h,AO c,this]
  ·rw[Bl ⋯,Bl (by rw[<-d,s];lia)]
 have F:e.key=a.key:=by unfold It3.key;rw[H,E]
 exact an3 w.nd i j e.key (by rw[Ak,hi];rfl) (by rw[Ak,l,F];rfl)
mutual
theorem ag7:∀d:D,d.lit=AC->NK.lit d.py=AC
 |.int _,_=>rfl
 |.str _,h=>h
 |.tup ds,h=>bb2 ds h
 |.non,h=>nomatch h
 |.bl _,h=>nomatch h
 |.ref _,h=>nomatch h
 |.fn _,h=>nomatch h
theorem bb2:∀ds:List D,D.lits ds=AC->NK.lits (D.pys ds)=AC
 |[],_=>rfl
 |d::r,h=>by
  have h':d.lit=AC/\D.lits r=AC:=by simpa[D.lits]using h
  show(NK.lit d.py&&NK.lits (D.pys r))=AC;rw[ag7 d h'.1,bb2 r h'.2];rfl
end
def be9{x y:D}(hx)hy(h:x.py=y.py):=by
 refine(ba9 x y hx hy).mp ?_;unfold deq;rw[h];exact(NK.eqv_lit _ _ (ag7 y hy) (ag7 y hy)).mpr rfl
def bc1(h:∀d∈e.fr,∃s:String,d=.str s):e.key.lit=AC:=by
 have b:=af0.mpr λd hd=>by obtain⟨s,rfl⟩:=h d hd;exact aw4 s
 have a:(B4 e.ns).lit=AC:=af0.mpr λd hd=>by
  obtain⟨n,_,rfl⟩:=DV.mp hd;rfl
 show D.lits [.tup e.fr,B4 e.ns]=AC;rw[ay8,ay8,ap4,b,a];rfl
def cs3(h:∀d∈e.fr,∃s:String,d=.str s):o4 e.key<=2:=by
 unfold It3.key;have i:F6 e.fr<=0:=by
  generalize e.fr=l at h
  induction l with
  |nil=>exact AX _
  |cons d l c=>
   obtain⟨s,rfl⟩:=h d ∎;have:=c λd hd=>h d (by simp[hd]);show max (o4 (.str s)) (F6 l)<=0;rw[E6];lia
 have f:∀ns:List Nat,F6 (ns.map λ(n:Nat)=>D.int (n:Int))<=0:=λns=>by
  induction ns with
  |nil=>exact AX _
  |cons n ns c=>
   show max (o4 (.int n)) (F6 _)<=0;rw[aa1];lia
 have g:=f e.ns;show max (o4 (.tup e.fr)) (max (o4 (B4 e.ns)) 0)+1<=2;unfold B4;rw[P7,P7];lia
theorem az6:∀(S:List It3)(k:D)o,(∀e∈S,e.key.py≠k.py)->E8 (S.mapIdx λi e=>(e.key.py,D.int ((o+i:Nat)))) k.py=AE
 |[],k,o,_=>rfl
 |e::S,k,o,h=>by
  have:=az6 S k (o+1) λe' he=>h e' (by simp[he]);rw[Jm];unfold E8 at this ⊢;rw[Bk,decide_eq_false (h e ∎)];simpa[FL,LX 1]using this
theorem a02:∀(S:List It3)(k:D)(o i:Nat)(e:It3),S[i]?=AA e->e.key.py=k.py->(∀j a,j<i->S[j]?=AA a->a.key.py≠k.py)->E8 (S.mapIdx λi e=>(e.key.py,D.int ((o+i:Nat):Int))) k.py=AA (.int ((o+i:Nat):Int))
 |[],k,o,i,e,h,_,_=>by simp at h
 |x::S,k,o,0,e,h,b,_=>by
  simp at h;subst h;rw[Jm];unfold E8;rw[Bk,decide_eq_true b];rfl
 |x::S,k,o,i+1,e,h,b,c=>by
  have:=a02 S k (o+1) i e (by simpa using h) b λj a hji he'=>c (j+1) a ⋯ (by simpa using he');rw[Jm];unfold E8 at this ⊢;rw[Bk,decide_eq_false (c 0 x ⋯ rfl)];simpa[FL,LX 1]using this
def bz9:∀{a b},B4 a=B4 b->a=b:=by
 intro a b h;injection h with h
 induction a generalizing b with
 |nil=>simp_all
 |cons x a e=>cases b with
  |nil=>simp at h
  |cons y b=>
   grind
def ct8{S:List It3}{ns:List Nat}{x y:List D}(k:x.length=ns.length)(i:y.length=ns.length)(f:∀(j n:Nat),ns[j]?=AA n->∃e,S[n]?=AA e/\x[j]?=AA e.t)(d:∀(j n:Nat),ns[j]?=AA n->∃e,S[n]?=AA e/\y[j]?=AA e.t):x=y:=by
 refine HL λj=>?_
 by_cases b:j<ns.length
 ·obtain⟨e,c,h⟩:=f j _ (AO b);obtain⟨l,a,g⟩:=d j _ (AO b);rw[c]at a;cases a;rw[h,g]
 ·simp_all
section
variable (T:PSh P G)
include T
def ax2{S:List It3}(A:ShA sh dn sa pa wa S st)(hd:[sh,dn,sa,pa].Nodup){inn:List D}{ns:List Nat}(O:∀d∈fr,∃s:String,d=.str s)(F:inn.length=ns.length)(L:∀(j n:Nat),ns[j]?=AA n->∃e,S[n]?=AA e/\inn[j]?=AA e.t)(b1:fr.length<=10)(b2:ns.length<=1000)(b3:S.length<1000000)
  (q:∀m S' h,ShA sh dn sa pa wa S' h->S <+: S'->S'.length<=S.length+1->S'[m]?=AA ⟨fr,ns,.tup (fr++inn)⟩->Kp [dn,sa,pa] st h->Q (.int (m:Nat)) h):sem P G (n+1) (c9 "Shelf" "numbered") [.ref sh,.tup fr,B4 ns] st Q:=by
 obtain⟨E,K⟩:∃E:It3,E=⟨fr,ns,.tup (fr++inn)⟩:=⟨_,rfl⟩;have X:E.key=.tup [.tup fr,B4 ns]:=by rw[K];rfl
 have N:=bc1 (e:=E) (by rw[K];exact O);have hdE:=cs3 (e:=E) (by rw[K];exact O);have I:D.key (.tup [.tup fr,B4 ns]):=by
  rw[<-X];exact⟨ag7 _ N,Ax hdE ∅⟩
 have W:∀e∈S,e.key.lit=AC:=λe v=>by
  obtain⟨i,hi⟩:=FT.mp v;exact bc1 (A.wf.wh i e hi).1
 have J:(S.mapIdx λi e=>(e.key.py,D.int i))=S.mapIdx λi e=>(e.key.py,D.int ((0+i:Nat):Int)):=by
  congr 1;funext i e;rw[Jn]
 refine i8 T.numb rfl [AA (.ref sh),AA (.tup fr),AA (B4 ns),AE,AE] rfl ?_;(iterate 2 ∎);refine⟨sh,"Shelf",_,.ref dn,rfl,A.ins,by show _∈G.cls "Shelf";rw[T.cls];simp,rfl,⟨_,A.num⟩,_,A.num,I,?_⟩;rw[<-X]
 by_cases Y:∃(i:Nat)(e:It3),S[i]?=AA e/\e.key=E.key
 ·obtain⟨i,e,hi,v⟩:=Y;have hl:E8 (S.mapIdx λi e=>(e.key.py,D.int i)) E.key.py=AA (.int i):=by
   rw[J,a02 S E.key 0 i e hi (by rw[v]) λj R hj k z=>?_,Jn];have hz:=be9 (W R (Az k)) N z;have:=an3 A.wf.nd j i E.key (by rw[Ak,k];exact congrArg AA hz) (by rw[Ak,hi];exact congrArg AA v);lia
  rw[hl];∎;refine .inr ⟨nofun,?_⟩;∎;refine c0 (q i S st A (CI S) ⋯ ?_ Kp.refl);rw[hi];have H:e.key=.tup [.tup fr,B4 ns]:=by rw[v,X]
  injection H with H
  simp only[Ai,and_true]at H;obtain⟨k1,k2⟩:=H;injection k1 with k1
  have k3:e.ns=ns:=bz9 k2;obtain⟨C,h1,h2,_,h4⟩:=A.wf.inn hi;have:C=inn:=ct8 h2 (by rw[k3];exact F) (λj n hj=>(h4 j n hj).2) (by rw[k3];exact L);obtain⟨a,b,c⟩:=e;simp only at k1 k3 h1;subst k1;subst k3;subst this;rw[h1]
 ·have M:∀e∈S,e.key.py≠E.key.py:=λe v z=>Y (by
   obtain⟨i,hi⟩:=FT.mp v;exact⟨i,e,hi,be9 (W e v) N z⟩)
  have hl:E8 (S.mapIdx λi e=>(e.key.py,D.int i)) E.key.py=AE:=by rw[J];exact az6 S E.key 0 M
  rw[hl];∎;refine .inl ⟨rfl,?_⟩;rfl';∎;have Z:∀f∈[("numbers":Str),("stored":Str),("parts":Str),("waiting":Str)],f∈G.cls "Shelf":=λf hf=>by rw[T.cls];exact hf
  refine⟨sh,"Shelf",_,.ref sa,rfl,A.ins,Z _ ∎,rfl,?_⟩;rw[v6 (.inl A.sto),AV];∎;refine⟨sh,"Shelf",_,.ref dn,rfl,A.ins,Z _ ∎,rfl,?_⟩;rw[X];refine⟨_,A.num,I,D5 (by rw[List.length_mapIdx];lia),?_⟩;rw[<-X];simp only[BR,AR,AW,or_false,not_or]at hd;obtain⟨⟨d1,d2,d3⟩,⟨d4,d5⟩,d6,_⟩:=hd;have V:X5 (S.mapIdx λi e=>(e.key.py,D.int i)) E.key.py (.int S.length)=(S++[E]).mapIdx λi e=>(e.key.py,D.int i):=by
   unfold X5;rw[if_neg,List.mapIdx_append]
   ·simp
   ·rw[Bool.not_eq_true,HD];intro x hx;rw[List.mem_mapIdx]at hx;obtain⟨i,hi,rfl⟩:=hx;simpa using M _ (Jf hi)
  rw[V];have a1:∀u,b0 st dn u sh=AA (.ins "Shelf" [(("numbers":Str),D.ref dn),(("stored":Str),D.ref sa),(("parts":Str),D.ref pa),(("waiting":Str),D.ref wa)]):=λu=>f6 A.ins d1;∎;have U:=f6 (u:=.dtt ((S++[E]).mapIdx λi e=>(e.key.py,D.int i))) A.sto (λz=>d4 z.symm);have n2:=f6 (u:=.dtt ((S++[E]).mapIdx λi e=>(e.key.py,D.int i))) A.par (λz=>d5 z.symm);have n0:b0 st dn (.dtt ((S++[E]).mapIdx λi e=>(e.key.py,D.int i))) dn=_:=f7;have a0:=a1 (.dtt ((S++[E]).mapIdx λi e=>(e.key.py,D.int i)));have nw:∃o,b0 st dn (.dtt ((S++[E]).mapIdx λi e=>(e.key.py,D.int i))) wa=AA o:=by
   by_cases z:wa=dn
   ·exact⟨_,by rw[z];exact f7⟩
   ·obtain⟨o,e⟩:=A.wai;exact⟨o,f6 e z⟩
  have K0:Kp [dn,sa,pa] st (b0 st dn (.dtt ((S++[E]).mapIdx λi e=>(e.key.py,D.int i)))):=Kp.refl.put ∎;revert U n2 n0 a0 nw K0;generalize b0 st dn (.dtt ((S++[E]).mapIdx λi e=>(e.key.py,D.int i)))=st1;intro U n2 n0 a0 nw K0;refine⟨sh,"Shelf",_,.ref sa,rfl,a0,Z _ ∎,rfl,by rw[B0 (.inl U)];trivial,.inl ⟨_,rfl,by simp only[AV];lia,?_⟩⟩;refine R9 (λl acc env' h=>h=st1/\∃(w r:List Nat)(x:Option D),ns=w++r/\l=r.map (λ(n:Nat)=>D.int (n:Int))/\acc=inn.take w.length/\env'=[AA (.ref sh),x]) ?_ ?_ _ _ _ _ ⟨rfl,[],ns,AE,rfl,rfl,∎,rfl⟩
  ·rintro acc env' h ⟨rfl,w,r,x,e,el,rfl,rfl⟩;have:r=[]:=by simpa using el.symm
   subst this;rw[BM]at e;subst e;rw[<-F,FA];refine⟨trivial,λp hp=>⟨aa5 ⋯,?_⟩⟩;have g1:=j8 (u:=.lst inn) U hp;rw[D6 g1];refine⟨D5 (by rw[AV];lia),?_⟩;have g2:=f6 (u:=.lst (S.map It3.t++[.tup (fr++inn)])) (j8 (u:=.lst inn) n2 hp) (λz=>d6 z.symm);have g3:=f6 (u:=.lst (S.map It3.t++[.tup (fr++inn)])) (j8 (u:=.lst inn) n0 hp) d4;have g4:=f6 (u:=.lst (S.map It3.t++[.tup (fr++inn)])) (j8 (u:=.lst inn) a0 hp) d2;have g5:b0 (b0 h p (.lst inn)) sa (.lst (S.map It3.t++[.tup (fr++inn)])) sa=_:=f7;have gw:∃o,b0 (b0 h p (.lst inn)) sa (.lst (S.map It3.t++[.tup (fr++inn)])) wa=AA o:=by
    by_cases z:wa=sa
    ·exact⟨_,by rw[z];exact f7⟩
    ·obtain⟨o,e⟩:=nw;exact⟨o,f6 (j8 e hp) z⟩
   have K1:Kp [dn,sa,pa] st (b0 (b0 h p (.lst inn)) sa (.lst (S.map It3.t++[.tup (fr++inn)]))):=(K0.new hp).put ∎;revert g2 g3 g4 g5 gw K1;generalize b0 (b0 h p (.lst inn)) sa (.lst (S.map It3.t++[.tup (fr++inn)]))=st2;intro g2 g3 g4 g5 gw K1;∎;refine⟨sh,"Shelf",_,.ref pa,rfl,g4,Z _ ∎,rfl,by rw[B0 (.inl g2)];trivial,?_⟩;rw[D6 g2];refine⟨D5 (by rw[AV];lia),?_⟩;rfl';∎;refine c0 (q S.length (S++[E]) _ ⟨f6 g4 d3,f6 g3 d5,?_,?_,?_,⟨λi e hi=>?_,?_⟩,by simp;lia,λe v=>?_⟩ (List.prefix_append S [E]) ∎ (by rw[An (AX _),Nat.sub_self,K];rfl) (K1.put ∎))
   ·rw[Af,K];exact f6 g5 d6
   ·rw[f7,Af,K];rfl
   ·by_cases z:wa=pa
    ·exact⟨_,by rw[z];exact f7⟩
    ·obtain⟨o,e⟩:=gw;exact⟨o,f6 e z⟩
   ·by_cases hil:i<S.length
    ·rw[Aa hil]at hi;obtain⟨h1,C,h2,h3,h4⟩:=A.wf.wh i e hi;refine⟨h1,C,h2,h3,λj n hj=>?_⟩;obtain⟨l1,R,k,g⟩:=h4 j n hj;exact⟨l1,R,by rw[Aa ⋯];exact k,g⟩
    ·rw[An ⋯]at hi;have hi0:i-S.length=0:=by have:=(AT.mp hi).1;simp at this;lia
     rw[hi0]at hi;simp at hi;subst hi;rw[K];refine⟨O,inn,rfl,F,λj n hj=>?_⟩;obtain⟨R,k,g⟩:=L j n hj;have:=(AT.mp k).1;exact⟨⋯,R,by rw[Aa this];exact k,g⟩
   ·rw[Af,Fj];refine⟨A.wf.nd,∎,λx hx y hy z=>?_⟩;simp at hy;subst hy;obtain⟨e,v,rfl⟩:=DV.mp hx;exact M e v (by rw[z])
   ·rcases Bf.mp v with v|v
    ·exact A.fl e v
    ·rw[Bx]at v;subst v;rw[K];exact⟨b1,b2⟩
  ·rintro d ds acc env' h ih ⟨rfl,w,r,x,e,el,rfl,rfl⟩;refine⟨trivial,?_⟩;cases r with
   |nil=>simp at el
   |cons m r=>
    simp only[Ag,Ai]at el;obtain⟨rfl,rfl⟩:=el;obtain⟨R,k,g⟩:=L w.length m (by rw[e];simp);rfl';refine⟨sh,"Shelf",_,.ref sa,rfl,a0,Z _ ∎,rfl,?_⟩;rw[l6 (.inl U)];refine⟨R.t,by rw[C8,Ak,k];rfl,ih _ _ _ ⟨rfl,w++[m],r,_,by rw[e];simp,rfl,?_,rfl⟩⟩;rw[Ap,AY,BW,List.take_add_one,g];rfl
end
abbrev B5:D->Bool
 |.tup _=>AC
 |_=>AG
abbrev X6:D->List D
 |.tup ds=>ds.filter B5
 |_=>[]
mutual
noncomputable def dsz:D->Nat
 |.tup ds=>1+Q7 ds
 |_=>1
noncomputable def Q7:List D->Nat
 |[]=>0
 |d::r=>(if B5 d then dsz d else 0)+Q7 r
end
theorem a71:∀ds,Q7 ds=((ds.filter B5).map dsz).sum
 |[]=>rfl
 |d::r=>by
  rw[Q7,a71 r]
  by_cases h:B5 d=AC
  ·simp_all
  ·simp_all
def Y7 t:dsz t=1+((X6 t).map dsz).sum:=by
 cases t<;>first|rfl|skip
 rw[dsz,a71];rfl
def ap0{d:D}(h:Lay d):B5 d=AC:=by cases h;rfl
def aq3{inn}(b:∀d∈fr,∃s:String,d=.str s)(a:∀d∈inn,B5 d=AC):(fr++inn).filter B5=inn:=by
 rw[GL,IC.mpr λd hd=>by obtain⟨s,rfl⟩:=b d hd;simp[B5]];exact List.filter_eq_self.mpr a
def b83{t c}(h:Lay t)(a:c∈X6 t):Lay c:=by
 cases h with
 |@mk fr inn e b _ _=>
  rw[X6,aq3 e λd hd=>ap0 (b d hd)]at a;exact b c a
abbrev Nm(S:List It3)(t d:D):Prop:=∃(m:Nat)(e:It3),d=.int m/\S[m]?=AA e/\e.t=t
def Nm.mono{S}{t d}(h:Nm S t d)(b:S <+: S'):Nm S' t d:=by
 obtain⟨m,e,rfl,a,c⟩:=h;obtain⟨r,rfl⟩:=b;exact⟨m,e,rfl,Aa (AT.mp a).1▸a,c⟩
theorem bd6{S:List It3}:∀{inn ds:List D},ds.length=inn.length->(∀(i:Nat)b d,inn[i]?=AA b->ds[i]?=AA d->Nm S b d)->∃ns:List Nat,ds=ns.map (λ(n:Nat)=>D.int (n:Int))/\inn.length=ns.length/\∀(j n:Nat),ns[j]?=AA n->∃e,S[n]?=AA e/\inn[j]?=AA e.t
 |[],ds,a,_=>⟨[],Bd (by simp_all),rfl,∎⟩
 |x::inn,[],a,_=>by simp at a
 |x::inn,d::ds,a,g=>by
  obtain⟨m,e,rfl,p,o⟩:=g 0 x d rfl rfl;obtain⟨ns,l,k,h⟩:=bd6 (inn:=inn) (ds:=ds) (by simpa using a) λi b d' e1 e2=>g (i+1) b d' (by simpa using e1) (by simpa using e2);refine⟨m::ns,by rw[l];rfl,by simp[k],λj n hj=>?_⟩;cases j with
  |zero=>simp at hj;subst hj;exact⟨e,p,by rw[o];rfl⟩
  |succ j=>
   obtain⟨q,s,r⟩:=h j n (by simpa using hj);exact⟨q,s,by simpa using r⟩
section
variable (T:PSh P G)
include T
def cs9(s:ds.length<=2000)(o:∀d∈ds,d.lit=AC)(q:∀a c,st a=AE->c a=AA (.lst (ds.filter B5))->Kp [] st c->Q (.ref a) c):sem P G (n+1) "tuples_in" [.tup ds] st Q:=by
 refine i8 T.tin rfl [AA (.tup ds)] rfl ?_;∎;refine⟨⋯,?_⟩;refine R9 (λl acc env' c=>c=st/\∃(f:List D)(x:Option D),ds=f++l/\acc=f.filter B5/\env'=[x]) ?_ ?_ _ _ _ _ ⟨rfl,[],AE,rfl,rfl,rfl⟩
 ·rintro acc env' c ⟨rfl,f,x,e,rfl,rfl⟩;rw[BM]at e;subst e;exact⟨trivial,λp hp=>c0 (q p _ hp f7 (Kp.refl.new hp))⟩
 ·rintro d l acc env' c ih ⟨rfl,f,x,e,rfl,rfl⟩;have r:=o d (by rw[e];simp);rfl';have h:∀(g:String),tyD d c=AA g->(g=="tuple"||(g=="bool"&&"tuple"=="int"))=B5 d->G1 (Zg P G n) (E.isT "tuple" (E.v 0)) [AA d] c λb st1=>if b=AC then z6 (λx=>True) (Tg.n 0) (G1 (Zg P G n) (E.isT "tuple" (E.v 0))) (λenv st Q=>∃d,env[0]?=AA (AA d)/\Q d st) (λacc c=>∀(p:AI),c p=AE->(j9 Q).rt (D.ref p) (b0 c p (Ob.lst acc))) l (LY B5 f++[d]) [AA d] st1 else z6 (λx=>True) (Tg.n 0) (G1 (Zg P G n) (E.isT "tuple" (E.v 0))) (λenv st Q=>∃d,env[0]?=AA (AA d)/\Q d st) (λacc c=>∀(p:AI),c p=AE->(j9 Q).rt (D.ref p) (b0 c p (Ob.lst acc))) l (LY B5 f) [AA d] st1:=λty h1 h2=>by
   show wpE (Zg P G n) (E.isT "tuple" (E.v 0)) [AA d] c λx st1=>∃b,x=.bl b/\_;rfl';refine c92 h1 ?_;rw[h2];refine⟨_,rfl,?_⟩;cases hb:B5 d with
   |true=>
    exact ih _ _ _ ⟨rfl,f++[d],_,by rw[e];simp,by simp[hb],rfl⟩
   |false=>
    exact ih _ _ _ ⟨rfl,f++[d],_,by rw[e];simp,by simp[hb],rfl⟩
  cases d with
  |int i=>exact h "int" rfl rfl
  |str x=>exact h "str" rfl rfl
  |tup ds=>exact h "tuple" rfl rfl
  |_=>cases r
theorem b67:∀(m:Nat){t:D},dsz t<=m->Lay t->t.lit=AC:=by
 intro m
 induction m with
 |zero=>intro t h;rw[Y7]at h;lia
 |succ m g=>
  intro t h k;have j:=Y7 t;cases k with
  |@mk fr inn f e _ _=>
   have i:=aq3 f λd a=>ap0 (e d a);rw[ap4,af0];intro d a
   rcases Bf.mp a with a|a
   ·obtain⟨s,rfl⟩:=f d a;exact aw4 s
   ·refine g ?_ (e d a);rw[X6,i]at j;have:=V6 dsz a;lia
omit T in
theorem ShA.keepL{S:List It3}(A:ShA sh dn sa pa wa S st)(K:Kp L st st')(h:∀x∈L,x∉[sh,dn,sa,pa,wa]):ShA sh dn sa pa wa S st':=
 ⟨K.at' A.ins (λz=>h _ z ∎),K.at' A.num (λz=>h _ z ∎),K.at' A.sto (λz=>h _ z ∎),K.at' A.par (λz=>h _ z ∎),(by obtain⟨o,e⟩:=A.wai;exact⟨o,K.at' e (λz=>h _ z ∎)⟩),A.wf,A.ml,A.fl⟩
omit T in
theorem ShA.keep{S:List It3}(A:ShA sh dn sa pa wa S st)(K:Kp [] st st'):ShA sh dn sa pa wa S st':=A.keepL K ∎
def b25{n:Nat}{S:List It3}(Y:1<=n)(A:ShA sh dn sa pa wa S st)(C:[sh,dn,sa,pa].Nodup){p:Ob}(r:st wa=AA p)(u:wa∉[dn,sa,pa]){t:D}(N:Lay t)(H:dsz t<=2000)(Z:S.length+dsz t<=900000)
  (q:∀d g f,Nm g t d->S <+: g->g.length<=S.length+dsz t->ShA sh dn sa pa wa g f->f wa=AA p->Kp [sh,dn,sa,pa,wa] st f->Q d f):sem P G (n+3) (c9 "Shelf" "laid") [.ref sh,t] st Q:=by
 refine i8 T.laid rfl [AA (.ref sh),AA t,AE,AE,AE] rfl ?_;(iterate 2 ∎);refine⟨by rw[T.mop];rfl,by rw[T.tin];rfl,?_⟩;obtain⟨n,rfl⟩:∃m,n=m+1:=⟨n-1,⋯⟩;refine cb2 T.toPM (n:=n+1) (T:=D) (enc:=λd=>d) (subs:=X6) (size:=dsz) (Do:=λd=>Lay d/\dsz d<=2000) (W:=List It3) (J:=λS st=>ShA sh dn sa pa wa S st/\st wa=AA p) (le:=λS g=>S <+: g) (L:=[sh,dn,sa,pa,wa]) (μ:=λS=>S.length) (B:=S.length+dsz t) (λs=>CI s) (λa b=>a.trans b) ?_ Y7 (λc gc c' hc'=>⟨b83 gc.1 hc',?_⟩) (F:=.fn "tuples_in") (show(P _).isSome=AC by rw[T.tin];rfl) (show Cok P (.clo _ _ _ _) from trivial) t H ⟨N,H⟩ (V:=λ_ S t d _=>Nm S t d) (λv l _=>v.mono l) (AX _) ⟨A,r⟩ ?_ ?_ ?_ ?_
 ·rintro S st f d ⟨A,ho⟩ hdn K;simp only[AR,AW,or_false,not_or]at hdn;obtain⟨j,k,U,R,I⟩:=hdn;exact⟨⟨K.at' A.ins (by simp;exact λz=>j z.symm),K.at' A.num (by simp;exact λz=>k z.symm),K.at' A.sto (by simp;exact λz=>U z.symm),K.at' A.par (by simp;exact λz=>R z.symm),(by obtain⟨o,e⟩:=A.wai;exact⟨o,K.at' e (by simp;exact λz=>I z.symm)⟩),A.wf,A.ml,A.fl⟩,K.at' ho (by simp;exact λz=>I z.symm)⟩
 ·have:=Y7 c;have:=V6 dsz hc';lia
 ·rintro S st ⟨A,_⟩ a ha;simp only[AR,AW,or_false]at ha
  rcases ha with rfl|rfl|rfl|rfl|rfl
  ·exact⟨_,A.ins⟩
  ·exact⟨_,A.num⟩
  ·exact⟨_,A.sto⟩
  ·exact⟨_,A.par⟩
  ·exact A.wai
 ·rintro c f Q g gc _ ⟨A',ho'⟩ K q;have h:=b67 T _ (AX _) gc.1;obtain⟨E,_⟩:=gc;cases E with
  |@mk fr inn j k M X=>
   refine cs9 T (by rw[Ap];lia) (af0.mp (by rw[ap4]at h;exact h)) λa st2 ha hs K2=>q _ _ _ (.inr ⟨a,rfl,ha,?_⟩) (CI _) (AX _) ⟨A'.keep K2,K2.at' ho' ∎⟩ (K2.more ∎);rw[hs,List.map_id'];rfl
 ·rintro c _ la f Q ds g gc hμ ⟨A',ho'⟩ K _ hla _ _ hl hlen hv _ q;obtain⟨E,_⟩:=gc;cases E with
  |@mk fr inn j k M X=>
   have O:=aq3 j λd C=>ap0 (k d C);simp only[X6,O]at hlen hv;obtain⟨ns,w,y,x⟩:=bd6 hlen hv;refine aq7 rfl [AA (.tup (fr++inn)),AA (.ref la),AA (.ref sh)] rfl ?_;∎;refine⟨sh,"Shelf",_,rfl,A'.ins,rfl,by rw[T.numb];rfl,?_⟩;rw[v6 (.inl hl)];rfl';rw[bc8 (.inl hl)];have i:A8 (fr++inn) AE (AA (((fr++inn).length:Int)-(ds.length:Int)))=fr:=by
    rw[Ap,hlen,show(((fr.length+inn.length:Nat):Int)-(inn.length:Int))=((fr.length:Nat):Int) by lia,bg9];simp
   rw[i,w];refine ax2 T A' C j y x M ⋯ (by have:=A'.ml;lia) λm S2 st2 A2 hp2 hl2 hm2 K2=>c0 (q _ S2 st2 ⟨m,_,rfl,hm2,rfl⟩ hp2 hl2 ⟨A2,K2.at' ho' u⟩ (K2.more ∎))
 ·rintro _ d g f _ v l hμ ⟨A',ho'⟩ K;exact c0 (q d g f v l hμ A' ho' K)
end
abbrev Has(S:List It3)(t:D):Prop:=∃(m:Nat)(e:It3),S[m]?=AA e/\e.t=t
open Classical in
abbrev nb(S:List It3)(t:D):Nat:=if h:Has S t then Classical.choose h else 0
def P5{S}{t}(h:Has S t):∃e,S[nb S t]?=AA e/\e.t=t:=by
 unfold nb;rw[dif_pos h];exact Classical.choose_spec h
def ah2{S}(w:Wf S){t}(h:S[m]?=AA e)(a:e.t=t):nb S t=m:=by
 obtain⟨d,c,b⟩:=P5 ⟨m,e,h,a⟩;exact w.inj _ (AX _) c h (b.trans a.symm)
def bf4{S}{t u}(c:Has S t)(b:Has S u)(h:nb S t=nb S u):t=u:=by
 obtain⟨e,a,rfl⟩:=P5 c;obtain⟨f,d,rfl⟩:=P5 b;rw[h,d]at a;cases a;rfl
def Has.mono{S}{t}(h:Has S t)(b:S <+: S'):Has S' t:=by
 obtain⟨m,e,a,c⟩:=h;obtain⟨r,rfl⟩:=b;exact⟨m,e,Aa (AT.mp a).1▸a,c⟩
def cy4{S}{t d}(w:Wf S)(h:Nm S t d):Has S t/\d=.int (nb S t):=by
 obtain⟨m,e,rfl,b,a⟩:=h;exact⟨⟨m,e,b,a⟩,by rw[ah2 w b a]⟩
def bh8{S:List It3}(w:Wf S){inn:List D}(h:Has S (.tup (fr++inn)))(o:∀d∈fr,∃s:String,d=.str s)(n:∀d∈inn,∃l,d=.tup l):(∀d∈inn,Has S d)/\∃e,S[nb S (.tup (fr++inn))]?=AA e/\e.ns=inn.map (nb S):=by
 obtain⟨e,g,r⟩:=P5 h;obtain⟨b,u,q,p,k⟩:=w.inn g;have m:e.fr++b=fr++inn:=by simp_all
 obtain⟨_,rfl⟩:=a95 (w.wh _ e g).1 o p n m;refine⟨λd hd=>?_,e,g,?_⟩
 ·obtain⟨j,c⟩:=FT.mp hd;have f:j<e.ns.length:=by rw[<-q];exact(AT.mp c).1
  obtain⟨_,i,a,hi⟩:=k j _ (AO f);rw[c]at hi;cases hi;exact⟨_,i,a,rfl⟩
 ·refine HL λj=>?_
  by_cases c:j<e.ns.length
  ·obtain⟨_,i,a,hi⟩:=k j _ (AO c);rw[AO c,Ak,hi];show AA _=AA (nb S i.t);rw[ah2 w a rfl]
  ·simp_all
def bf1{inn}(c:ds=fr++inn)(f:∀d∈fr,∃s:String,d=.str s)(e:∀d∈inn,Lay d)(b:fr.length<=10)(a:inn.length<=1000):Lay (.tup ds):=by
 subst c;exact .mk f e b a
def ac3:∀d∈([.str w]:List D),∃s:String,d=.str s:=λd hd=>by simp at hd;subst hd;exact⟨w,rfl⟩
def ar7{x y}(b:Lay x)(a:Lay y):Lay (.tup [.str w,x,y]):=bf1 rfl ac3 λd hd=>by simp at hd;rcases hd with rfl|rfl<;>assumption ∎ ∎
def be6:Lay (.tup [.str w]):=bf1 rfl ac3 (λd hd=>by simp at hd) ∎ ∎
theorem T2:∀k:Kd,Lay k.d
 |.non=>be6
 |.one=>be6
 |.eith a b=>ar7 (T2 a) (T2 b)
 |.both a b=>ar7 (T2 a) (T2 b)
 |.way a b=>ar7 (T2 a) (T2 b)
def aa6:∀k:Kd,∃l,k.d=.tup l
 |.non=>⟨_,rfl⟩
 |.one=>⟨_,rfl⟩
 |.eith _ _=>⟨_,rfl⟩
 |.both _ _=>⟨_,rfl⟩
 |.way _ _=>⟨_,rfl⟩
def ap3(w:String){a:Kd}(n:dsz a.d+1<=2^(a.nest+1))(m:dsz b.d+1<=2^(b.nest+1)):dsz (.tup [.str w,a.d,b.d])+1<=2^(1+max a.nest b.nest+1):=by
 have l:2^(a.nest+1)<=2^(max a.nest b.nest+1):=BY ∅ ⋯;have k:2^(b.nest+1)<=2^(max a.nest b.nest+1):=BY ∅ ⋯;have e:2^(1+max a.nest b.nest+1)=2^(max a.nest b.nest+1)*2:=by rw[show 1+max a.nest b.nest+1=(max a.nest b.nest+1)+1 by lia,Jo]
 obtain⟨j,h⟩:=aa6 a;obtain⟨i,g⟩:=aa6 b;rw[dsz,Q7,Q7,Q7,Q7,e];have f:B5 a.d=AC:=by rw[h];rfl
 have c:B5 b.d=AC:=by rw[g];rfl
 rw[if_pos f,if_pos c,if_neg (by simp[B5])];lia
theorem P4:∀k:Kd,dsz k.d+1<=2^(k.nest+1)
 |.non=>by decide
 |.one=>by decide
 |.eith a b=>ap3 _ (P4 a) (P4 b)
 |.both a b=>ap3 _ (P4 a) (P4 b)
 |.way a b=>ap3 _ (P4 a) (P4 b)
section
variable (T:PSh P G)
include T
def bx0{S}(A:ShA sh dn sa pa wa S st){inn}(h:Has S (.tup (fr++inn)))(f:∀d∈fr,∃s:String,d=.str s)(c:∀d∈inn,∃l,d=.tup l)(q:Q (B4 (inn.map (nb S))) st):sem P G (n+1) (c9 "Shelf" "within") [.ref sh,.int (nb S (.tup (fr++inn)))] st Q:=by
 obtain⟨_,e,b,a⟩:=bh8 A.wf h f c;refine i8 T.wthn rfl [AA (.ref sh),AA (.int (nb S (.tup (fr++inn))))] rfl ?_;∎;refine⟨sh,"Shelf",_,.ref pa,rfl,A.ins,by rw[T.cls];simp,rfl,?_⟩;rw[l6 (.inl A.par)];refine⟨B4 e.ns,by rw[C8,Ak,b];rfl,c0 ?_⟩;rwa[a]
def b28{S}(A:ShA sh dn sa pa wa S st){t}(h:Has S t)(q:Q t st):sem P G (n+1) (c9 "Shelf" "tuple_at") [.ref sh,.int (nb S t)] st Q:=by
 obtain⟨e,b,a⟩:=P5 h;refine i8 T.tup rfl [AA (.ref sh),AA (.int (nb S t))] rfl ?_;∎;refine⟨sh,"Shelf",_,.ref sa,rfl,A.ins,by rw[T.cls];simp,rfl,?_⟩;rw[l6 (.inl A.sto)];exact⟨t,by rw[C8,Ak,b,<-a];rfl,c0 q⟩
def af8{S}(A:ShA sh dn sa pa wa S st){d}{r}(h:Has S (.tup (d::r)))(q:Q d st):sem P G (n+1) (c9 "Shelf" "word_at") [.ref sh,.int (nb S (.tup (d::r)))] st Q:=by
 obtain⟨e,b,a⟩:=P5 h;refine i8 T.word rfl [AA (.ref sh),AA (.int (nb S (.tup (d::r))))] rfl ?_;∎;refine⟨sh,"Shelf",_,.ref sa,rfl,A.ins,by rw[T.cls];simp,rfl,?_⟩;rw[l6 (.inl A.sto)];refine⟨.tup (d::r),by rw[C8,Ak,b,<-a];rfl,?_⟩;rfl';exact c0 q
def bw0(J:st sh=AE)(q:∀dn sa pa wa i,ShA sh dn sa pa wa [] i->[sh,dn,sa,pa].Nodup->(∀a∈[sh,dn,sa,pa,wa],st a=AE)->wa∉[dn,sa,pa]->wa≠sh->i wa=AA (.lst [])->Kp [] st i->Q .non i):sem P G (n+1) (c9 "Shelf" "__init__") [.ref sh] (b0 st sh (.ins "Shelf" [])) Q:=by
 refine i8 T.init rfl [AA (.ref sh)] rfl ?_;have p:∀f∈([("numbers":Str),("stored":Str),("parts":Str),("waiting":Str)]:List Str),f∈G.cls "Shelf":=λf hf=>by rw[T.cls];exact hf
 ∎;refine⟨T.kt,λdn hdn=>⟨sh,"Shelf",[],rfl,j8 f7 hdn,p _ ∎,∅,?_⟩⟩;have k:sh≠dn:=l5 f7 hdn;have S:st dn=AE:=by rw[B6 k.symm]at hdn;exact hdn
 have l:∀{i:Sto}{u:Ob},Kp [] st i->Kp [] st (b0 i sh u):=λK b o nb e=>f6 (K b o nb e) (l5 e J);have A:b0 (b0 (b0 st sh (.ins "Shelf" [])) dn (.dtt [])) sh (.ins "Shelf" (l7 "numbers" (.ref dn) [])) sh=AA (.ins "Shelf" [(("numbers":Str),D.ref dn)]):=by rw[f7];rfl
 have z:b0 (b0 (b0 st sh (.ins "Shelf" [])) dn (.dtt [])) sh (.ins "Shelf" (l7 "numbers" (.ref dn) [])) dn=AA (.dtt []):=f6 f7 k.symm;have E:Kp [] st (b0 (b0 (b0 st sh (.ins "Shelf" [])) dn (.dtt [])) sh (.ins "Shelf" (l7 "numbers" (.ref dn) []))):=l ((l Kp.refl).new hdn);revert A z E;generalize b0 (b0 (b0 st sh (.ins "Shelf" [])) dn (.dtt [])) sh (.ins "Shelf" (l7 "numbers" (.ref dn) []))=s1;intro A z E;∎;refine λsa hsa=>⟨sh,"Shelf",_,rfl,j8 A hsa,p _ ∎,∎,?_⟩;have m:sh≠sa:=l5 A hsa;have R:dn≠sa:=l5 z hsa;have y:b0 (b0 s1 sa (.lst [])) sh (.ins "Shelf" (l7 "stored" (.ref sa) [(("numbers":Str),D.ref dn)])) sh=AA (.ins "Shelf" [(("numbers":Str),D.ref dn),(("stored":Str),D.ref sa)]):=by rw[f7];simp[l7,u6]
 have x:b0 (b0 s1 sa (.lst [])) sh (.ins "Shelf" (l7 "stored" (.ref sa) [(("numbers":Str),D.ref dn)])) dn=AA (.dtt []):=f6 (j8 z hsa) k.symm;have w:b0 (b0 s1 sa (.lst [])) sh (.ins "Shelf" (l7 "stored" (.ref sa) [(("numbers":Str),D.ref dn)])) sa=AA (.lst []):=f6 f7 m.symm;have C:Kp [] st (b0 (b0 s1 sa (.lst [])) sh (.ins "Shelf" (l7 "stored" (.ref sa) [(("numbers":Str),D.ref dn)]))):=l (E.new hsa);have L:st sa=AE:=none_of E hsa;revert y x w C;generalize b0 (b0 s1 sa (.lst [])) sh (.ins "Shelf" (l7 "stored" (.ref sa) [(("numbers":Str),D.ref dn)]))=s2;intro y x w C;∎;refine λpa hpa=>⟨sh,"Shelf",_,rfl,j8 y hpa,p _ ∎,∎,?_⟩;have H:sh≠pa:=l5 y hpa;have O:dn≠pa:=l5 x hpa;have N:sa≠pa:=l5 w hpa;have v:b0 (b0 s2 pa (.lst [])) sh (.ins "Shelf" (l7 "parts" (.ref pa) [(("numbers":Str),D.ref dn),(("stored":Str),D.ref sa)])) sh=AA (.ins "Shelf" [(("numbers":Str),D.ref dn),(("stored":Str),D.ref sa),(("parts":Str),D.ref pa)]):=by rw[f7];simp[l7,u6]
 have t:b0 (b0 s2 pa (.lst [])) sh (.ins "Shelf" (l7 "parts" (.ref pa) [(("numbers":Str),D.ref dn),(("stored":Str),D.ref sa)])) dn=AA (.dtt []):=f6 (j8 x hpa) k.symm;have s:b0 (b0 s2 pa (.lst [])) sh (.ins "Shelf" (l7 "parts" (.ref pa) [(("numbers":Str),D.ref dn),(("stored":Str),D.ref sa)])) sa=AA (.lst []):=f6 (j8 w hpa) m.symm;have r:b0 (b0 s2 pa (.lst [])) sh (.ins "Shelf" (l7 "parts" (.ref pa) [(("numbers":Str),D.ref dn),(("stored":Str),D.ref sa)])) pa=AA (.lst []):=f6 f7 H.symm;have B:Kp [] st (b0 (b0 s2 pa (.lst [])) sh (.ins "Shelf" (l7 "parts" (.ref pa) [(("numbers":Str),D.ref dn),(("stored":Str),D.ref sa)]))):=l (C.new hpa);have M:st pa=AE:=none_of C hpa;revert v t s r B;generalize b0 (b0 s2 pa (.lst [])) sh (.ins "Shelf" (l7 "parts" (.ref pa) [(("numbers":Str),D.ref dn),(("stored":Str),D.ref sa)]))=s3;intro v t s r B;∎;refine λwa hwa=>⟨sh,"Shelf",_,rfl,j8 v hwa,p _ ∎,∎,?_⟩;have F:sh≠wa:=l5 v hwa;refine ba1 (q dn sa pa wa _ ⟨by rw[f7];simp[l7,u6],f6 (j8 t hwa) k.symm,f6 (j8 s hwa) m.symm,f6 (j8 r hwa) H.symm,⟨_,f6 f7 F.symm⟩,⟨∎,∎⟩,∎,∎⟩ ?_ ?_ ?_ F.symm (f6 f7 F.symm) (l (B.new hwa)))
 ·simp[k,m,H,R,O,N]
 ·intro a I;simp only[AR,AW,or_false]at I
  rcases I with rfl|rfl|rfl|rfl|rfl
  ·exact J
  ·exact S
  ·exact L
  ·exact M
  ·exact none_of B hwa
 ·simp only[AR,AW,or_false,not_or];exact⟨(l5 t hwa).symm,(l5 s hwa).symm,(l5 r hwa).symm⟩
end
abbrev Rm(r:Int)(st:Sto)(a:AI):Prop:=st a=AA (.lst [.int r])
def Rm.keep{b}(h:Rm r st b)(x:Kp L st st')(n:b∉L):Rm r st' b:=x.at' h n
def Rm.new{b p}{u}(h:Rm r st b)(a:st p=AE):Rm r (b0 st p u) b:=j8 h a
abbrev Pg.oc:Nat->Pg->Nat
 |i,.name n=>if n=i then 1 else 0
 |_,.star=>0
 |i,.pair t u=>t.oc i+u.oc i
 |i,.first t=>t.oc i
 |i,.second t=>t.oc i
 |i,.left _ t=>t.oc i
 |i,.right _ t=>t.oc i
 |i,.case t u v=>t.oc i+u.oc (i+1)+v.oc (i+1)
 |i,.way _ t=>t.oc (i+1)
 |i,.give t u=>t.oc i+u.oc i
 |i,.lets t u=>t.oc i+u.oc (i+1)
 |i,.never _ t=>t.oc i
abbrev Pg.nl(m:Nat):List Kd->Pg->Prop
 |_,.name _=>True
 |_,.star=>True
 |Γ,.pair t u=>t.nl m Γ/\u.nl m Γ
 |Γ,.first t=>t.nl m Γ
 |Γ,.second t=>t.nl m Γ
 |Γ,.left _ t=>t.nl m Γ
 |Γ,.right _ t=>t.nl m Γ
 |Γ,.case t u v=>t.nl m Γ/\∀a b,t.kind Γ=AA (.eith a b)->(a.nest<=m/\b.nest<=m)/\u.nl m (a::Γ)/\v.nl m (b::Γ)
 |Γ,.way a t=>t.nl m (a::Γ)
 |Γ,.give t u=>t.nl m Γ/\u.nl m Γ
 |Γ,.lets t u=>t.nl m Γ/\∀a,t.kind Γ=AA a->a.nest<=m/\u.nl m (a::Γ)
 |Γ,.never _ t=>t.nl m Γ
abbrev Cn(e:Int)(deep:Nat)(Γ:List Kd)(p:Pg)(r r':Int):Prop:=
 ((1<=r->-(2*(deep:Int))<=r')/\(e=0->r<=0->r'=r-1)/\r'<=r-1+e)/\(∀(i:Nat)(a:Kd),Γ[i]?=AA a->a≠.non->3*(p.oc i:Int)<=2*(r-r'+e)+1/\(3*(p.oc i:Int)=2*(r-r'+e)+1->(p.parts:Int)=r-r'+e))/\p.nl 6 Γ
section
variable {d:Nat} {t u v:Pg} {r1 r2 r3:Int}
def Cn.leaf(h:(∀i,p.oc i=0)/\∀b,p.nl 6 b):Cn 1 d Γ p r r:=⟨⟨λ_=>⋯,λz=>⋯,⋯⟩,λi a _ _=>by simp_all,h.2 Γ⟩
def Cn.k1(b:Cn 0 d Γ t r r1)(c:∀i,p.oc i=t.oc i)(e:t.nl 6 Γ->p.nl 6 Γ):Cn 1 (d+1) Γ p r r1:=
 ⟨⟨λz=>by have:=b.1.1 z;lia,λz=>⋯,by have:=b.1.2.2;lia⟩,λi a h1 h2=>by have:=b.2.1 i a h1 h2;rw[c i];lia,e b.2.2⟩
def Cn.k1b(c:Cn 0 d (b::Γ) t r r1)(e:∀i,p.oc i=t.oc (i+1))(f:t.nl 6 (b::Γ)->p.nl 6 Γ):Cn 1 (d+1) Γ p r r1:=
 ⟨⟨λz=>by have:=c.1.1 z;lia,λz=>⋯,by have:=c.1.2.2;lia⟩,λi a h1 h2=>by have:=c.2.1 (i+1) a (by simpa using h1) h2;rw[e i];lia,f c.2.2⟩
def Cn.k2(c:Cn 0 d Γ t r r1)(b:Cn 0 d Γ u r1 r2)(e:∀i,p.oc i=t.oc i+u.oc i)(f:t.nl 6 Γ->u.nl 6 Γ->p.nl 6 Γ):Cn 1 (d+1) Γ p r r2:=
 ⟨⟨λz=>by have:=c.1.1 z;have:=b.1.1;have:=b.1.2.1 rfl;lia,λz=>⋯,by have:=c.1.2.2;have:=b.1.2.2;lia⟩,λi a h1 h2=>by have:=c.2.1 i a h1 h2;have:=b.2.1 i a h1 h2;rw[e i];lia,f c.2.2 b.2.2⟩
def Cn.k2b(e:Cn 0 d Γ t r r1)(c:Cn 0 d (b::Γ) u r1 r2)(f:∀i,p.oc i=t.oc i+u.oc (i+1))(g:t.nl 6 Γ->u.nl 6 (b::Γ)->p.nl 6 Γ):Cn 1 (d+1) Γ p r r2:=
 ⟨⟨λz=>by have:=e.1.1 z;have:=c.1.1;have:=c.1.2.1 rfl;lia,λz=>⋯,by have:=e.1.2.2;have:=c.1.2.2;lia⟩,λi a h1 h2=>by have:=e.2.1 i a h1 h2;have:=c.2.1 (i+1) a (by simpa using h1) h2;rw[f i];lia,g e.2.2 c.2.2⟩
def Cn.k3{g:Kd}(f:Cn 0 d Γ t r r1)(e:Cn 0 d (b::Γ) u r1 r2)(c:Cn 0 d (g::Γ) v r2 r3)(h:t.nl 6 Γ->u.nl 6 (b::Γ)->v.nl 6 (g::Γ)->(Pg.case t u v).nl 6 Γ):Cn 1 (d+1) Γ (.case t u v) r r3:=
 ⟨⟨λz=>by have:=f.1.1 z;have:=e.1.1;have:=e.1.2.1 rfl;have:=c.1.1;have:=c.1.2.1 rfl;lia,λz=>⋯,by have:=f.1.2.2;have:=e.1.2.2;have:=c.1.2.2;lia⟩,λi a h1 h2=>by have:=f.2.1 i a h1 h2;have:=e.2.1 (i+1) a (by simpa using h1) h2;have:=c.2.1 (i+1) a (by simpa using h1) h2;simp only[Pg.oc,Pg.parts];lia,h f.2.2 e.2.2 c.2.2⟩
end
def L5{k:Kd}:[k.d]++Γ.map Kd.d=(k::Γ).map Kd.d:=rfl
def C9{a b:Nat}(h:a+b<=1000):a+b<=sizeLine:=aa5 ⋯
def Kp.w2 b(h:Kp [a] st st'):Kp [a,b] st st':=h.more ∎
section
variable (B:PB P) 
include B
def ao2:∀(k:Kd){Γ:List Kd}{n:Nat}{Q:DK},k.good->k.bd 100->k.nest<=6->k.nest+4<=n->Γ.length+k.nest<=999->(∀p:Pg,p.kind Γ=AA k->p.hgt<=k.nest+1->p.parts+1<=2^(k.nest+1)->p.kn 6->((∀i,p.oc i=0)/\∀Δ,p.nl 6 Δ)->Q p.d st)->sem P G n "_law_least" [k.d,.tup (Γ.map Kd.d)] st Q:=by
 intro k
 induction k with
 |non=>intro Γ n Q g;exact g.elim
 |one=>
  intro Γ n Q g h l o c q;obtain⟨n,rfl⟩:∃k,n=k+1:=⟨n-1,⋯⟩;refine i8 B.least rfl [AA Kd.one.d,AA (.tup (Γ.map Kd.d)),AE,AE] rfl ?_;unfold V2;simp only[Kd.d];(iterate 4 ∎);exact c0 (q .star rfl ∅ ∅ trivial ⟨λ_=>rfl,λ_=>trivial⟩)
 |both a b f e=>
  intro Γ n Q g h l o c q;obtain⟨n,rfl⟩:∃k,n=k+1:=⟨n-1,⋯⟩;simp only[Kd.nest]at o c l;refine i8 B.least rfl [AA (Kd.both a b).d,AA (.tup (Γ.map Kd.d)),AE,AE] rfl ?_;unfold V2;simp only[Kd.d];(iterate 5 ∎);refine⟨by rw[B.least];rfl,f g.1 h.1 ⋯ ⋯ ⋯ λp k1 h1 p1 m1 o1=>⟨by rw[B.least];rfl,e g.2 h.2.1 ⋯ ⋯ ⋯ λr k2 h2 p2 m2 o2=>?_⟩⟩;have C:2^(a.nest+1)<=2^(max a.nest b.nest+1):=BY ∅ ⋯;have u:2^(b.nest+1)<=2^(max a.nest b.nest+1):=BY ∅ ⋯;have E:2^(1+max a.nest b.nest+1)=2*2^(max a.nest b.nest+1):=by rw[show 1+max a.nest b.nest+1=(max a.nest b.nest+1)+1 by lia,Jo,Jp]
  exact c0 (q (.pair p r) (by simp only[Pg.kind,k1,k2]) (by simp only[Pg.hgt,Kd.nest];lia) (by simp only[Pg.parts,Kd.nest];lia) ⟨m1,m2⟩ ⟨λi=>by simp only[Pg.oc,o1.1,o2.1],λΔ=>⟨o1.2 Δ,o2.2 Δ⟩⟩)
 |way a b f e=>
  intro Γ n Q g h l o c q;obtain⟨n,rfl⟩:∃k,n=k+1:=⟨n-1,⋯⟩;simp only[Kd.nest]at o c l;refine i8 B.least rfl [AA (Kd.way a b).d,AA (.tup (Γ.map Kd.d)),AE,AE] rfl ?_;unfold V2;simp only[Kd.d];(iterate 6 ∎);refine⟨C9 (by simp only[AV];lia),?_⟩;rw[L5];∎;refine⟨by rw[B.least];rfl,e g.2.1 h.2.1 ⋯ ⋯ (by simp only[AY];lia) λr k2 h2 p2 m2 o2=>?_⟩;have u:2^(b.nest+1)<=2^(max a.nest b.nest+1):=BY ∅ ⋯;have D:0<2^(max a.nest b.nest+1):=pow_pos ∅;exact c0 (q (.way a r) (by simp only[Pg.kind,k2]) (by simp only[Pg.hgt,Kd.nest];lia) (by simp only[Pg.parts,Kd.nest];lia) ⟨⋯,m2⟩ ⟨λi=>by simp only[Pg.oc,o2.1],λΔ=>o2.2 (a::Δ)⟩)
 |eith a b f e=>
  intro Γ n Q g h l o c q;obtain⟨n,rfl⟩:∃k,n=k+1:=⟨n-1,⋯⟩;simp only[Kd.nest]at o c l;refine i8 B.least rfl [AA (Kd.eith a b).d,AA (.tup (Γ.map Kd.d)),AE,AE] rfl ?_;unfold V2;simp only[Kd.d];(iterate 6 ∎);have C:2^(a.nest+1)<=2^(max a.nest b.nest+1):=BY ∅ ⋯;have u:2^(b.nest+1)<=2^(max a.nest b.nest+1):=BY ∅ ⋯;refine⟨by rw[B.count];rfl,N4 B.toPB0 a (m:=100) ⋯ (ab5 h.1) ∅ ?_⟩;rfl'
  by_cases s:(0:Int)<a.cnt
  ·simp only[s,if_true];have A:a.good:=by
    rcases g with g|g|g
    ·exact g.1
    ·rw[g.1]at s;simp[Kd.cnt]at s
    ·exact g.1
   ∎;refine⟨by rw[B.least];rfl,f A h.1 ⋯ ⋯ ⋯ λp k1 h1 p1 m1 o1=>?_⟩;exact c0 (q (.left b p) (by simp only[Pg.kind,k1]) (by simp only[Pg.hgt,Kd.nest];lia) (by simp only[Pg.parts,Kd.nest];lia) ⟨⋯,m1⟩ ⟨λi=>by simp only[Pg.oc,o1.1],λΔ=>o1.2 Δ⟩)
  ·simp only[s,if_false];have z:b.good:=by
    rcases g with g|g|g
    ·exact g.2
    ·exact g.2
    ·exact absurd (Kd.good_pos g.1) ⋯
   ∎;refine⟨by rw[B.least];rfl,e z h.2.1 ⋯ ⋯ ⋯ λp k1 h1 p1 m1 o1=>?_⟩;exact c0 (q (.right a p) (by simp only[Pg.kind,k1]) (by simp only[Pg.hgt,Kd.nest];lia) (by simp only[Pg.parts,Kd.nest];lia) ⟨⋯,m1⟩ ⟨λi=>by simp only[Pg.oc,o1.1],λΔ=>o1.2 Δ⟩)
abbrev GSp(e:Int)(P:i6)(G:Gs)(f:Str)(n dp deep:Nat):Prop:=∀{da ra:AI}{k:Kd}{Γ:List Kd}{st:Sto}{Q:DK}{r:Int},da≠ra->o5 st da->Rm r st ra->k.good->k.bd 100->k.nest<=dp->Γ.length+deep<=900 ->
 (∀(p:Pg)st' r',p.kind Γ=AA k->p.hgt<=deep+7->p.kn 6->Cn e deep Γ p r r'->o5 st' da->Rm r' st' ra->Kp [da,ra] st st'->Q p.d st')->sem P G n f [.ref da,k.d,.tup (Γ.map Kd.d),.ref ra,.int deep] st Q
def b62{f:Nat}(U:12<=n)(w:GSp 0 P G "_law_grown" n 5 f):GSp 1 P G "_law_made" (n+1) 5 (f+1):=by
 intro C u k Γ st Q M i I R g o D S q;have A:((f+1:Nat):Int)-1=(f:Nat):=by lia
 obtain⟨n,rfl⟩:∃m,n=m+1:=⟨n-1,⋯⟩;cases k with
 |non=>exact g.elim
 |one=>
  refine i8 B.made rfl [AA (.ref C),AA Kd.one.d,AA (.tup (Γ.map Kd.d)),AA (.ref u),AA (.int (f+1:Nat)),AE,AE,AE,AE] rfl ?_;unfold O8;simp only[Kd.d];(iterate 3 ∎);exact⟨by rw[B.least];rfl,ao2 B .one g o ∅ (by simp only[Kd.nest];lia) (by simp only[Kd.nest];lia) λp k1 h1 _ m1 o1=>c0 (q p _ _ k1 (by simp only[Kd.nest]at h1;lia) m1 (Cn.leaf o1) I R Kp.refl)⟩
 |both a b=>
  simp only[Kd.nest]at D;refine i8 B.made rfl [AA (.ref C),AA (Kd.both a b).d,AA (.tup (Γ.map Kd.d)),AA (.ref u),AA (.int (f+1:Nat)),AE,AE,AE,AE] rfl ?_;unfold O8;simp only[Kd.d];(iterate 4 ∎);rw[A];refine⟨by rw[B.grown];rfl,w i I R g.1 o.1 ⋯ ⋯ λp st1 r1 k1 h1 m1 c1 I1 v l=>?_⟩;∎;rw[A];refine⟨by rw[B.grown];rfl,w i I1 v g.2 o.2.1 ⋯ ⋯ λp2 st2 r2 k2 h2 m2 c2 I2 R2 K2=>?_⟩;exact c0 (q (.pair p p2) _ _ (by simp only[Pg.kind,k1,k2]) (by simp only[Pg.hgt];lia) ⟨m1,m2⟩ (c1.k2 c2 (λ_=>rfl) λx y=>⟨x,y⟩) I2 R2 (l.trans K2))
 |way a b=>
  simp only[Kd.nest]at D;refine i8 B.made rfl [AA (.ref C),AA (Kd.way a b).d,AA (.tup (Γ.map Kd.d)),AA (.ref u),AA (.int (f+1:Nat)),AE,AE,AE,AE] rfl ?_;unfold O8;simp only[Kd.d];(iterate 5 ∎);rw[L5,A];refine⟨by rw[B.grown];rfl,C9 (by simp only[AV];lia),w i I R g.2.1 o.2.1 ⋯ (by simp only[AY];lia) λp st1 r1 k1 h1 m1 c1 I1 v l=>?_⟩;exact c0 (q (.way a p) _ _ (by simp only[Pg.kind,k1]) (by simp only[Pg.hgt];lia) ⟨⋯,m1⟩ (c1.k1b (λ_=>rfl) λx=>x) I1 v l)
 |eith a b=>
  simp only[Kd.nest]at D;refine i8 B.made rfl [AA (.ref C),AA (Kd.eith a b).d,AA (.tup (Γ.map Kd.d)),AA (.ref u),AA (.int (f+1:Nat)),AE,AE,AE,AE] rfl ?_;unfold O8;simp only[Kd.d];(iterate 5 ∎);refine⟨by rw[B.next];rfl,z9 B.toPB0 ∅ I λr st1 M r1 I1 l=>?_⟩;have v:=R.keep l (by simp;exact λz=>i z.symm);have l:=l.w2 u;have fin:∀(s:Int),(s=0/\a.good)\/(s=1/\b.good)->i5 (Zg P G (n+1)) (O8.body.drop 6) (j9 Q) [AA (.ref C),AA (Kd.eith a b).d,AA (.tup (Γ.map Kd.d)),AA (.ref u),AA (.int (f+1:Nat)),AA (.str "either"),AE,AA (.int s),AE] st1:=by
   intro s T;simp only[O8,Ss.drop,Kd.d]
   rcases T with⟨rfl,F⟩|⟨rfl,E⟩
   ·∎;rw[A];refine⟨by rw[B.grown];rfl,a.d,rfl,w i I1 v F o.1 ⋯ ⋯ λp st2 r2 k2 h2 m2 c2 I2 R2 K2=>?_⟩;∎;intro x t;rfl';exact⟨b.d,rfl,c0 (q (.left b p) _ _ (by simp only[Pg.kind,k2]) (by simp only[Pg.hgt];lia) ⟨⋯,m2⟩ (c2.k1 (λ_=>rfl) λx=>x) (I2.new t) (R2.new t) ((l.trans K2).new t))⟩
   ·∎;rw[A];refine⟨by rw[B.grown];rfl,b.d,rfl,w i I1 v E o.2.1 ⋯ ⋯ λp st2 r2 k2 h2 m2 c2 I2 R2 K2=>?_⟩;∎;intro x t;rfl';exact⟨a.d,rfl,c0 (q (.right a p) _ _ (by simp only[Pg.kind,k2]) (by simp only[Pg.hgt];lia) ⟨⋯,m2⟩ (c2.k1 (λ_=>rfl) λx=>x) (I2.new t) (R2.new t) ((l.trans K2).new t))⟩
  have H:∀c:Kd,c.good\/c=.non->(c.cnt:Int)≠0->c.good:=λc h j=>h.elim id λe=>by subst e;simp[Kd.cnt]at j
  have F:a.good\/a=.non:=by rcases g with g|g|g<;>simp[g]
  have E:b.good\/b=.non:=by rcases g with g|g|g<;>simp[g]
  ∎;obtain rfl|rfl:r=0\/r=1:=by lia
  ·refine⟨by rw[B.count];rfl,a.d,rfl,N4 B.toPB0 a (m:=100) ⋯ (ab5 o.1) ∅ ?_⟩;rfl'
   by_cases j:(a.cnt:Int)=0
   ·simp only[j,if_true];∎;exact fin 1 (.inr ⟨rfl,g.elim (λg=>g.2) λg=>g.elim (λg=>g.2) λg=>absurd (Kd.good_pos g.1) ⋯⟩)
   ·simp only[j,if_false];exact fin 0 (.inl ⟨rfl,H a F j⟩)
  ·refine⟨by rw[B.count];rfl,b.d,rfl,N4 B.toPB0 b (m:=100) ⋯ (ab5 o.2.1) ∅ ?_⟩;rfl'
   by_cases j:(b.cnt:Int)=0
   ·simp only[j,if_true];∎;exact fin 0 (.inl ⟨rfl,g.elim (λg=>g.1) λg=>g.elim (λg=>absurd (Kd.good_pos g.2) ⋯) λg=>g.1⟩)
   ·simp only[j,if_false];exact fin 1 (.inr ⟨rfl,H b E j⟩)
omit B in
theorem ct3{k:Kd}(h:k∈Γ):∃j:Nat,Γ[j]?=AA k/\∀(i:Nat)c,i<j->Γ[i]?=AA c->c≠k:=by
 induction Γ with
 |nil=>cases h
 |cons c Γ ih=>
  by_cases e:c=k
  ·exact⟨0,by rw[e];rfl,λi c hi=>⋯⟩
  ·obtain⟨j,hj,hb⟩:=ih (by rcases AR.mp h with z|z;exact absurd z.symm e;exact z);refine⟨j+1,hj,λi d hi hd=>?_⟩;cases i with
   |zero=>cases hd;exact e
   |succ i=>exact hb i d ⋯ hd
omit B in
theorem c47{k:Kd}(h:k∈Γ)(hn:k.nest<=100)(q:∀j:Nat,Γ[j]?=AA k->Q (.int j) st):T5 (.tup (Γ.map Kd.d)) k.d st Q:=by
 obtain⟨j,hj,hb⟩:=ct3 h;refine⟨y3 k,an0 Γ,by rw[C5];lia,j,k.d,by rw[Ak,hj];rfl,by rw[G4];simp,λi e hi he=>?_,q j hj⟩;rw[Ak]at he;cases hc:Γ[i]? with
 |none=>rw[hc]at he;cases he
 |some c=>rw[hc]at he;cases he;rw[G4];simp[hb i c hi hc]
omit B in
theorem ct0{k:Kd}:((Γ.map Kd.d).any λy=>deq y k.d)=AB (k∈Γ):=by
 induction Γ with
 |nil=>rfl
 |cons c Γ ih=>rw[Ag,FQ,ih,G4];simp only[AR,Bool.decide_or];congr 1;exact decide_eq_decide.mpr ⟨Eq.symm,Eq.symm⟩
omit B in
theorem b21{d:Nat}{k:Kd}(h:Γ[j]?=AA .non):Cn 1 d Γ (.never k (.name j)) r r:=
 ⟨⟨λ_=>⋯,λz=>⋯,⋯⟩,λi a h1 h2=>by
  have:j≠i:=λz=>by subst z;rw[h]at h1;cases h1;exact h2 rfl
  simp only[Pg.oc,this,if_false];lia,trivial⟩
def bz1{a:Nat}(hn:12<=n)(t:GSp 0 P G "_law_grown" n 5 a):GSp 1 P G "_law_asked" (n+1) 4 (a+1):=by
 intro N F k Γ st Q r0 c I R g v n5 hΓ q;have u:((a+1:Nat):Int)-1=(a:Nat):=by lia
 obtain⟨n,rfl⟩:∃m,n=m+1:=⟨n-1,⋯⟩;have H:F∉[N]:=by simp;exact λz=>c z.symm
 refine i8 B.asked rfl [AA (.ref N),AA k.d,AA (.tup (Γ.map Kd.d)),AA (.ref F),AA (.int (a+1:Nat)),AE,AE,AE,AE,AE] rfl ?_;∎;refine⟨by rw[B.kind];rfl,N5 B.toPB0 (most:=4) ∅ ∅ 1 ⋯ I λko st1 C L no I1 O=>?_⟩;have R1:=R.keep O H;have O:=O.w2 F;have fin:∀ko:Kd,ko.good->ko.bd 4->ko.nest<=1->(Kd.both k ko).bd 100->(Kd.both ko k).bd 100->(Kd.way ko k).bd 100->i5 (Zg P G (n+1)) (Q9.body.drop 2) (j9 Q) [AA (.ref N),AA k.d,AA (.tup (Γ.map Kd.d)),AA (.ref F),AA (.int (a+1:Nat)),AA ko.d,AE,AE,AE,AE] st1:=by
  intro ko C L no b1 b2 b3;∎;refine⟨by rw[B.next];rfl,z9 B.toPB0 ∅ I1 λr st2 r0 r1 I2 A=>?_⟩;have M:=R1.keep A H;have A:=O.trans (A.w2 F);have i:=Kd.bd_mono (show 4<=100 by decide) L;∎
  by_cases h0:r=0
  ·simp only[h0,if_true];∎;rw[u];refine⟨by rw[B.grown];rfl,t (k:=.both k ko) c I2 M ⟨g,C⟩ b1 (by simp only[Kd.nest];lia) ⋯ λp st3 r3 k3 K m3 c3 I3 w l=>?_⟩;exact c0 (q (.first p) _ _ (by simp only[Pg.kind,k3]) (by simp only[Pg.hgt];lia) m3 (c3.k1 (λ_=>rfl) λx=>x) I3 w (A.trans l))
  simp only[h0,if_false];∎
  by_cases h1:r=1
  ·simp only[h1,if_true];∎;rw[u];refine⟨by rw[B.grown];rfl,t (k:=.both ko k) c I2 M ⟨C,g⟩ b2 (by simp only[Kd.nest];lia) ⋯ λp st3 r3 k3 K m3 c3 I3 w l=>?_⟩;exact c0 (q (.second p) _ _ (by simp only[Pg.kind,k3]) (by simp only[Pg.hgt];lia) m3 (c3.k1 (λ_=>rfl) λx=>x) I3 w (A.trans l))
  simp only[h1,if_false];∎
  by_cases h2:r=2
  ·simp only[h2,if_true];∎;rw[u];refine⟨by rw[B.grown];rfl,t (k:=.way ko k) c I2 M ⟨.inl C,g,Ax (Kd.bd_le L) ∅⟩ b3 (by simp only[Kd.nest];lia) ⋯ λp st3 r3 k3 K m3 c3 I3 w l=>?_⟩;∎;rw[u];refine⟨by rw[B.grown];rfl,t (k:=ko) c I3 w C i ⋯ ⋯ λp4 st4 r4 k4 J m4 c4 I4 R4 K4=>?_⟩;exact c0 (q (.give p p4) _ _ (by simp only[Pg.kind,k3,k4,if_true]) (by simp only[Pg.hgt];lia) ⟨m3,m4⟩ (c3.k2 c4 (λ_=>rfl) λx y=>⟨x,y⟩) I4 R4 ((A.trans l).trans K4))
  simp only[h2,if_false];∎
  by_cases K:r=3
  ·simp only[K,if_true];∎;rw[u];refine⟨by rw[B.grown];rfl,t (k:=ko) c I2 M C i ⋯ ⋯ λp st3 r3 k3 K m3 c3 I3 w l=>?_⟩;∎;rw[u,L5];refine⟨by rw[B.grown];rfl,C9 (by simp only[AV];lia),t (k:=k) c I3 w g v ⋯ (by simp only[AY];lia) λp4 st4 r4 k4 J m4 c4 I4 R4 K4=>?_⟩;exact c0 (q (.lets p p4) _ _ (by simp only[Pg.kind,k3,k4]) (by simp only[Pg.hgt];lia) ⟨m3,m4⟩ (c3.k2b c4 (λ_=>rfl) λx y=>⟨x,λa ha=>by rw[k3]at ha;cases ha;exact⟨⋯,y⟩⟩) I4 R4 ((A.trans l).trans K4))
  simp only[K,if_false];have E:i5 (Zg P G (n+1)) (Q9.body.drop 8) (j9 Q) [AA (.ref N),AA k.d,AA (.tup (Γ.map Kd.d)),AA (.ref F),AA (.int (a+1:Nat)),AA ko.d,AA (.int r),AE,AE,AE] st2:=by
   simp only[Q9,Ss.drop];∎;refine⟨by rw[B.kind];rfl,N5 B.toPB0 (most:=4) ∅ ∅ 1 ⋯ I2 λkm st3 gm bm nm I3 l=>?_⟩;have w:=M.keep l H;have l:=A.trans (l.w2 F);have W:=Kd.bd_mono (show 4<=100 by decide) bm;have lo:=Kd.bd_le L;have lm:=Kd.bd_le bm;∎;rw[u];refine⟨by rw[B.grown];rfl,t (k:=.eith ko km) c I3 w (.inl ⟨C,gm⟩) ⟨i,W,⋯⟩ (by simp only[Kd.nest];lia) ⋯ λp4 st4 r4 k4 J m4 c4 I4 R4 K4=>?_⟩;∎;rw[u,L5];refine⟨by rw[B.grown];rfl,C9 (by simp only[AV];lia),t (k:=k) c I4 R4 g v ⋯ (by simp only[AY];lia) λp5 st5 r5 k5 h5 m5 c5 I5 R5 K5=>?_⟩;∎;rw[u,L5];refine⟨by rw[B.grown];rfl,C9 (by simp only[AV];lia),t (k:=k) c I5 R5 g v ⋯ (by simp only[AY];lia) λp6 st6 r6 k6 h6 m6 c6 I6 R6 K6=>?_⟩;exact c0 (q (.case p4 p5 p6) _ _ (by simp only[Pg.kind,k4,k5,k6,if_true]) (by simp only[Pg.hgt];lia) ⟨m4,m5,m6⟩ (c4.k3 c5 c6 λx y z=>⟨x,λa b ha=>by rw[k4]at ha;cases ha;exact⟨⟨⋯,⋯⟩,y,z⟩⟩) I6 R6 (((l.trans K4).trans K5).trans K6))
  have s:(D.tup [.str "none"])=Kd.non.d:=rfl;∎
  by_cases J:r=4
  ·simp only[J,if_true];rw[s,ct0];refine⟨y3 _,an0 _,by rw[C5];decide,?_⟩;rfl'
   by_cases U:Kd.non∈Γ
   ·simp only[U,if_true];∎;rw[s];refine c47 U ∅ λj hj=>?_;exact c0 (q (.never k (.name j)) _ _ (by simp only[Pg.kind,hj]) (by simp only[Pg.hgt];lia) ⟨⋯,trivial⟩ (b21 hj) I2 M A)
   ·simp only[U,if_false];subst J;exact E
  ·simp only[J,if_false];exact E
 have i:=Kd.bd_mono (show 4<=100 by decide) L;have S:∀k:Kd,k.bd 100->(Kd.both k .one).bd 100/\(Kd.both .one k).bd 100/\(Kd.way .one k).bd 100:=λk h=>by
  have:=Kd.bd_le h;have o:Kd.one.bd 100:=(show 1<=100 by decide);exact⟨⟨h,o,by simpa[Kd.cnt]using this⟩,⟨o,h,by simpa[Kd.cnt]using this⟩,⟨o,h,by simpa[Kd.cnt]using this⟩⟩
 have⟨Z,Y,X⟩:=S k v;∎;refine⟨by rw[B.count];rfl,N4 B.toPB0 (.both k ko) (m:=100) (by simp only[Kd.nest];lia) (λc d e=>by rcases e with e|e|e<;>cases e;exact⟨v,i⟩) ∅ ?_⟩;rfl'
 by_cases V:(100:Int)<(Kd.both k ko).cnt
 ·simp only[V,if_true];∎;exact fin .one trivial (show 1<=4 by decide) ∅ Z Y X
 ·simp only[V,if_false];refine⟨by rw[B.count];rfl,N4 B.toPB0 (.way ko k) (m:=100) (by simp only[Kd.nest];lia) (λc d e=>by rcases e with e|e|e<;>cases e;exact⟨i,v⟩) ∅ ?_⟩;rfl'
  by_cases T:(100:Int)<(Kd.way ko k).cnt
  ·simp only[T,if_true];∎;exact fin .one trivial (show 1<=4 by decide) ∅ Z Y X
  ·simp only[T,if_false];simp only[Kd.cnt]at V T;exact fin ko C L no ⟨v,i,⋯⟩ ⟨i,v,by rw[Jp];lia⟩ ⟨i,v,⋯⟩
end
abbrev c63:List (Str×D):=[("name",.int 2),("star",.int 1),("pair",.int 1),("first",.int 1),("second",.int 1),("left",.int 2),("right",.int 2),("case",.int 1),("way",.int 2),("give",.int 1),("let",.int 1),("never",.int 2)]
abbrev c13:List (Str×D):=[("case",.ktup [.inl 1,.inl 2]),("way",.ktup [.inl 0]),("let",.ktup [.inl 1])]
abbrev Pg.more:Pg->Nat->Nat
 |.case _ _ _,i=>if i=1\/i=2 then 1 else 0
 |.way _ _,i=>if i=0 then 1 else 0
 |.lets _ _,i=>if i=1 then 1 else 0
 |_,_=>0
theorem aw3:∀ds(i),(p8 i ds).length=ds.length
 |[],_=>rfl
 |_::ds,i=>by show(p8 (i+1) ds).length+1=ds.length+1;rw[aw3 ds]
def b11{d}(h:(∀i,p.oc i=0)/\∀b,p.nl 6 b):Cn 0 d Γ p r (r-1):=⟨⟨λ_=>⋯,λ_ _=>rfl,⋯⟩,λi a _ _=>by rw[h.1 i];lia,h.2 Γ⟩
def b66{d}:Cn 0 d Γ (.name j) r (r-1):=⟨⟨λ_=>⋯,λ_ _=>rfl,⋯⟩,λi a _ _=>by simp only[Pg.oc,Pg.parts];split<;>lia,trivial⟩
def an8{d}{r'}(h:¬r-1<=0)(c:Cn 1 d Γ p (r-1) r'):Cn 0 d Γ p r r':=
 ⟨⟨λ_=>c.1.1 ⋯,λ_ z=>⋯,by have:=c.1.2.2;lia⟩,λi a h1 h2=>by have:=c.2.1 i a h1 h2;lia,c.2.2⟩
section
variable (B:PB P) 
include B
def a03(b:Nat)(hn:14<=n+2)(hm:0<b->GSp 1 P G "_law_made" (n+1) 5 b)(ha:0<b->GSp 1 P G "_law_asked" (n+1) 4 b):GSp 0 P G "_law_grown" (n+2) 5 b:=by
 intro H s k Γ st Q r t I R g S n5 E q;have N:s∉[H]:=by simp;exact λz=>t z.symm
 refine i8 B.grown rfl [AA (.ref H),AA k.d,AA (.tup (Γ.map Kd.d)),AA (.ref s),AA (.int b),AE,AE] rfl ?_;∎;rw[l6 (.inl R)];rfl';refine⟨s,0,0,_,rfl,rfl,R,rfl,?_⟩;have T:o5 (b0 st s (.lst [.int (r-1)])) H:=let⟨l,h⟩:=I;⟨l,f6 h t⟩;have Z:(b0 st s (.lst [.int (r-1)])) s=AA (.lst [.int (r-1)]):=f7;have K1:Kp [H,s] st (b0 st s (.lst [.int (r-1)])):=Kp.refl.put ∎;show i5 _ _ _ _ (b0 st s (.lst [.int (r-1)]));revert T Z K1;generalize b0 st s (.lst [.int (r-1)])=st1;intro T Z K1;∎;refine⟨by rw[aw3,AV];lia,?_⟩;refine R9 (λl acc env' st'=>st'=st1/\∃(f m:List Kd)(x y:Option D)(a:List Nat),Γ=f++m/\l=p8 f.length (m.map Kd.d)/\env'=[AA k.d,x,y]/\acc=a.map (λi:Nat=>D.int (i:Int))/\a.length<=f.length/\∀i∈a,Γ[i]?=AA k) ?_ ?_ _ _ _ _ ⟨rfl,[],Γ,AE,AE,[],rfl,rfl,rfl,rfl,AX _,∎⟩
 ·rintro acc env' st' ⟨rfl,f,m,x,y,a,eΓ,el,rfl,rfl,al,hacc⟩;refine⟨trivial,λsp hsp=>?_⟩;have I2:=T.new (u:=.lst (a.map (λi:Nat=>D.int (i:Int)))) hsp;have Y:=j8 (u:=.lst (a.map (λi:Nat=>D.int (i:Int)))) Z hsp;have K2:=K1.new (o:=.lst (a.map (λi:Nat=>D.int (i:Int)))) hsp;have X:b0 st' sp (.lst (a.map (λi:Nat=>D.int (i:Int)))) sp=AA (.lst (a.map (λi:Nat=>D.int (i:Int)))):=f7;have L:sp∉[H]:=by simp;exact λz=>T.ne hsp z.symm
  revert I2 Y K2 X;intro I2 Y K2 X;∎;refine⟨by rw[B.next];rfl,z9 B.toPB0 ∅ I2 λw st3 w0 w1 I3 C=>?_⟩;have K:=C.at' Y N;have W:=C.at' X L;have C:=K2.trans (C.w2 s);have fin:i5 (Zg P G (n+1)) (V3.body.drop 4) (j9 Q) [AA (.ref H),AA k.d,AA (.tup (Γ.map Kd.d)),AA (.ref s),AA (.int b),AA (.ref sp),AA (.int w)] st3:=by
   simp only[V3,Ss.drop];have M:i5 (Zg P G (n+1)) (.cons (.ret (.call "_law_least" (.cons (.v 1) (.cons (.v 2) .nil)))) .nil) ⟨i5 (Zg P G (n+1)) (V3.body.drop 5) (j9 Q),(j9 Q).rt,(j9 Q).bk,(j9 Q).ct⟩ [AA (.ref H),AA k.d,AA (.tup (Γ.map Kd.d)),AA (.ref s),AA (.int b),AA (.ref sp),AA (.int w)] st3:=by
    ∎;exact⟨by rw[B.least];rfl,ao2 B k g S ⋯ ⋯ ⋯ λp k1 V _ m1 o1=>c0 (q p _ (r-1) k1 ⋯ m1 (b11 o1) I3 K C)⟩
   have F:(D.tup [.str "none"])=Kd.non.d:=rfl;have kn:k≠.non:=λz=>by subst z;exact g
   ∎;rw[l6 (.inl K)];rfl'
   by_cases V:r-1<=0
   ·simp only[V,if_true];exact M
   simp only[V,if_false]
   by_cases h2:(b:Int)<=0
   ·simp only[h2,if_true];exact M
   simp only[h2,if_false];rw[F,ah8,G4];refine⟨y3 _,y3 _,by rw[C5,C5];exact Ax (GM _ _) ⋯,?_⟩;rfl';simp only[kn,if_false];∎
   by_cases h6:w<6
   ·simp only[h6,if_true];∎;exact⟨by rw[B.made];rfl,hm ⋯ t I3 K g S n5 E λp st4 r4 k4 h4 m4 c4 I4 J A=>c0 (q p _ r4 k4 h4 m4 (an8 ⋯ c4) I4 J (C.trans A))⟩
   simp only[h6,if_false];refine⟨by rw[B.nest];rfl,b94 B k ⋯ ?_⟩;rfl'
   by_cases h5:(4:Int)<k.nest
   ·simp only[h5,if_true];∎;exact⟨by rw[B.made];rfl,hm ⋯ t I3 K g S n5 E λp st4 r4 k4 h4 m4 c4 I4 J A=>c0 (q p _ r4 k4 h4 m4 (an8 ⋯ c4) I4 J (C.trans A))⟩
   simp only[h5,if_false];∎;exact⟨by rw[B.asked];rfl,ha ⋯ t I3 K g S ⋯ E λp st4 r4 k4 h4 m4 c4 I4 J A=>c0 (q p _ r4 k4 h4 m4 (an8 ⋯ c4) I4 J (C.trans A))⟩
  ∎;rw[v6 (.inl W)];rfl'
  by_cases U:(0:Int)<((a.map (λi:Nat=>D.int (i:Int))).length:Nat)
  ·simp only[U,if_true]
   by_cases h3:w<3
   ·simp only[h3,if_true];∎;rw[v6 (.inl W)];refine⟨by rw[B.next];rfl,z9 B.toPB0 U I3 λj st4 j0 j1 I4 A=>?_⟩;have S4:=A.at' W L;have J:=A.at' K N;have A:=C.trans (A.w2 s);rw[l6 (.inl S4)];obtain⟨j,rfl⟩:=Ex j0;rw[AV]at j1;have hj:j<a.length:=by lia
    refine⟨.int (a[j]:Int),?_,c0 (q (.name a[j]) _ (r-1) (hacc _ (Jf hj)) (by simp only[Pg.hgt];lia) trivial b66 I4 J A)⟩;show atI _ ((j:Nat):Int)=_;rw[C8,Ak,AO hj];rfl
   ·simp only[h3,if_false];exact fin
  ·simp only[U,if_false];exact fin
 ·rintro d ds acc env' st' ih ⟨rfl,f,m,x,y,a,eΓ,el,rfl,rfl,al,hacc⟩;refine⟨trivial,?_⟩;cases m with
  |nil=>simp[p8]at el
  |cons c m=>
   simp only[Ag,p8,Ai]at el;obtain⟨rfl,rfl⟩:=el;have hc:Γ[f.length]?=AA c:=by rw[eΓ];simp
   rfl';rw[ah8,G4];refine⟨y3 _,y3 _,by rw[C5,C5];exact Ax (FY _ _) ⋯,?_⟩;rfl'
   by_cases e:c=k
   ·simp only[e,if_true];refine ih _ _ _ ⟨rfl,f++[c],m,_,_,a++[f.length],by rw[eΓ];simp,∎,rfl,∎,by simp;lia,λi hi=>?_⟩
    rcases Bf.mp hi with hi|hi
    ·exact hacc i hi
    ·simp only[Bx]at hi;subst hi;rw[hc,e]
   ·simp only[e,if_false];exact ih _ _ _ ⟨rfl,f++[c],m,_,_,a,by rw[eΓ];simp,∎,rfl,rfl,by simp;lia,hacc⟩
theorem ao7:∀a{n},2*a+14<=n->GSp 0 P G "_law_grown" n 5 a
 |0,n,b=>by
  obtain⟨n,rfl⟩:∃m,n=m+2:=⟨n-2,⋯⟩;exact a03 B 0 ⋯ (λh=>absurd h ∅) λh=>absurd h ∅
 |a+1,n,b=>by
  obtain⟨n,rfl⟩:∃m,n=m+2:=⟨n-2,⋯⟩;exact a03 B (a+1) ⋯ (λ_=>b62 B ⋯ (ao7 a ⋯)) λ_=>bz1 B ⋯ (ao7 a ⋯)
end
def Kp.fresh{p}{o}(h:Kp [a,p] (b0 st p o) st')(d:st p=AE):Kp [a] st st':=λb u n e=>have c:=l5 e d;h b u (by simp_all) (B6 c▸e)
def Pg.parts_kids(p:Pg):p.parts=1+(p.kids.map Pg.parts).sum:=by
 cases p<;>simp only[Pg.parts,Pg.kids,Ag,EB,Dn,ID]<;>lia
def Pg.hgt_kids(p:Pg):∀c∈p.kids,c.hgt<p.hgt:=by
 cases p<;>simp only[Pg.hgt,Pg.kids,AR,AW,forall_eq]<;>lia
def Pg.kn_kids(p:Pg)(h:p.kn m):∀c∈p.kids,c.kn m:=by
 cases p<;>simp only[Pg.kids,AR,AW,or_false,false_imp_iff,implies_true,forall_eq_or_imp,forall_eq]at h ⊢<;>first|exact h|exact h.2
section
variable (B:PB P) 
include B
def an4(p:Pg)(q:Q (.tup (p.kids.map Pg.d)) st):sem P G (n+1) "_law_inner" [p.d] st Q:=by
 refine i8 B.inner rfl [AA p.d,AE] rfl ?_;cases p<;>simp only[Pg.d]
 case name=>
  (iterate 3 ∎);exact c0 q
 all_goals
  (iterate 3 ∎);simp only[O7,R0,E4,DI,true_and,E6,Bm];exact⟨∅,∅,c0 q⟩
def a86:∀(h:Nat)(p:Pg){n:Nat}{st:Sto}{Q:DK},p.hgt<=h->h+2<=n->(∀f,Kp [] st f->Q (.int p.parts) f)->sem P G n "_law_parts" [p.d] st Q:=by
 intro h
 induction h with
 |zero=>intro p n st Q r;cases p<;>simp only[Pg.hgt]at r<;>lia
 |succ h j=>
  intro p n st Q r u q;obtain⟨n,rfl⟩:∃m,n=m+2:=⟨n-2,⋯⟩;refine i8 B.parts rfl [AA p.d] rfl ?_;∎;refine⟨by rw[B.inner];rfl,an4 B p ?_⟩;rfl';refine⟨by rw[AV];cases p<;>simp only[Pg.kids,AY,BW]<;>decide,?_⟩;refine R9 (λl acc env' f=>Kp [] st f/\∃(pre b:List Pg)(x:Option D),p.kids=pre++b/\l=b.map Pg.d/\env'=[x]/\acc=(pre.map λc=>D.int (c.parts:Nat))) ?_ ?_ _ _ _ _ ⟨Kp.refl,[],p.kids,AE,rfl,rfl,rfl,rfl⟩
  ·rintro acc env' f ⟨K,pre,b,x,ek,el,rfl,rfl⟩;refine⟨trivial,λa ha=>?_⟩;have s:b=[]:=by simpa using el.symm
   subst s;have e:(pre.map λc:Pg=>D.int (c.parts:Nat))=(pre.map λc:Pg=>((c.parts:Nat):Int)).map D.int:=by rw[Cf];rfl
   refine⟨_,.inl (by rw[<-e];exact f7),?_⟩;rfl';have t:(1:Int)+(pre.map λc:Pg=>((c.parts:Nat):Int)).sum=(p.parts:Nat):=by
    rw[Pg.parts_kids p,ek,BM];generalize pre=l
    induction l with
    |nil=>rfl
    |cons c l j=>simp only[Ag,Dn]at j ⊢;lia
   rw[t];exact c0 (q _ (K.new ha))
  ·rintro d ds acc env' f ihc ⟨K,pre,b,x,ek,el,rfl,rfl⟩;refine⟨trivial,?_⟩;cases b with
   |nil=>simp at el
   |cons c b=>
    simp only[Ag,Ai]at el;obtain⟨rfl,rfl⟩:=el;rfl';have v:=Pg.hgt_kids p c (by rw[ek];simp);refine⟨by rw[B.parts];rfl,j c ⋯ ⋯ λst2 K2=>ihc _ _ _ ⟨K.trans K2,pre++[c],b,_,by rw[ek];simp,rfl,rfl,∎⟩⟩
def Q8{k:Kd}{b:Int}(t:b<=33)(s:40<=n)(I:o5 st da)(g:k.good)(j:k.bd 100)(o:k.nest<=5)(r:Γ.length<=800)(q:∀(p:Pg)c,p.kind Γ=AA k->p.hgt<=15->p.parts<=64->p.kn 6->(k.nest<=4->p.parts<=60/\∀i a,Γ[i]?=AA a->a≠.non->p.parts+59*p.oc i<=2000)->p.nl 6 Γ->o5 c da->Kp [da] st c->Q p.d c):sem P G n "_law_program" [.ref da,k.d,.tup (Γ.map Kd.d),.int b] st Q:=by
 obtain⟨n,rfl⟩:∃m,n=m+1:=⟨n-1,⋯⟩;refine i8 B.program rfl [AA (.ref da),AA k.d,AA (.tup (Γ.map Kd.d)),AA (.int b),AE] rfl ?_;∎;refine⟨by rw[B.grown];rfl,λra hra=>?_⟩;refine ao7 B 8 ⋯ (I.ne hra) (I.new hra) f7 g j o ⋯ λp st1 r1 k1 h1 m1 c1 I1 R1 f=>?_;have f:=f.fresh hra;∎;refine⟨by rw[B.parts];rfl,a86 B 15 p ⋯ ⋯ λst2 e=>?_⟩;have l:=I1.keep e ∎;have e:=f.trans (e.more ∎);rfl'
 by_cases h:(60:Int)<(p.parts:Nat)
 ·simp only[h,if_true];∎;refine⟨by rw[B.least];rfl,ao2 B k g j ⋯ ⋯ ⋯ λp3 k3 h3 p3' m3 o3=>c0 (q p3 _ k3 ⋯ ?_ m3 (λhk=>?_) (o3.2 Γ) l e)⟩
  ·have:2^(k.nest+1)<=2^6:=BY ∅ ⋯;lia
  ·have:2^(k.nest+1)<=2^5:=BY ∅ ⋯;exact⟨⋯,λi a _ _=>by rw[o3.1 i];lia⟩
 ·simp only[h,if_false];∎;exact c0 (q p _ k1 h1 ⋯ m1 (λ_=>⟨⋯,λi a h1 h2=>by
   have:=c1.2.1 i a h1 h2;have:=c1.1.1;have:=c1.1.2.1 rfl;have:=c1.1.2.2;lia⟩) c1.2.2 l e)
omit B in
abbrev F5:List Kd->Nat
 |[]=>1
 |k::r=>max 1 k.cnt*F5 r
omit B in
theorem a09:∀(l:List Kd)(k:Kd),F5 (l++[k])=F5 l*max 1 k.cnt
 |[],k=>by simp[F5]
 |c::l,k=>by simp only[Cb,F5,a09 l k,Nat.mul_assoc]
def b39{most lines:Nat}(w:20<=n)(z:most<=100)(u:1<=lines)(t:lines<=1000)(I:o5 st da)(q:∀(Γ:List Kd)a,Γ.length<=most->(∀k∈Γ,(k.good\/k=.non)/\k.bd 16/\k.nest<=2)->F5 Γ<=lines->o5 a da->Kp [da] st a->Q (.tup (Γ.map Kd.d)) a):sem P G n "_law_names" [.ref da,.int most,.int lines] st Q:=by
 obtain⟨n,rfl⟩:∃m,n=m+2:=⟨n-2,⋯⟩;refine i8 B.names rfl [AA (.ref da),AA (.int most),AA (.int lines),AE,AE,AE,AE] rfl ?_;(iterate 3 ∎);refine⟨by rw[B.next];rfl,z9 B.toPB0 ⋯ I λr st1 r0 r1 I1 K1=>⟨r,rfl,⋯,?_⟩⟩;refine L4 (λl env a=>o5 a da/\Kp [da] st a/\∃(Γ:List Kd)(x y:Option D),env=[AA (.ref da),AA (.int most),AA (.int lines),AA (.tup (Γ.map Kd.d)),AA (.int (F5 Γ:Nat)),x,y]/\Γ.length+l.length<=most/\(∀k∈Γ,(k.good\/k=.non)/\k.bd 16/\k.nest<=2)/\F5 Γ<=lines) ?_ ?_ _ _ _ ⟨I1,K1,[],AE,AE,rfl,by simp[v5];lia,∎,u⟩
 ·rintro env a ⟨I2,K2,Γ,x,y,rfl,h1,h2,h3⟩;∎;exact c0 (q Γ _ (by simpa using h1) h2 h3 I2 K2)
 ·rintro d ds env a ih ⟨I2,K2,Γ,x,y,rfl,h1,h2,h3⟩;rfl';∎;refine⟨by rw[B.kind];rfl,N5 B.toPB0 (most:=16) ∅ ∅ 2 ⋯ I2 λk st3 g3 b3 n3 I3 i=>?_⟩;have i:=K2.trans i;∎;refine⟨by rw[B.next];rfl,z9 B.toPB0 ∅ I3 λr4 st4 _ _ I4 g=>?_⟩;have g:=i.trans g;have fin:∀k:Kd,(k.good\/k=.non)->k.bd 16->k.nest<=2->i5 (Zg P G (n+1)) (match J5.body.drop 2 with|.cons (.for _ _ b) _=>b.drop 2|_=>.nil) ⟨t6 (λ_=>True) (.n 5) (i5 (Zg P G (n+1)) (match J5.body.drop 2 with|.cons (.for _ _ b) _=>b|_=>.nil)) ⟨i5 (Zg P G (n+1)) (J5.body.drop 3) (j9 Q),(j9 Q).rt,(j9 Q).bk,(j9 Q).ct⟩ ds,(j9 Q).rt,i5 (Zg P G (n+1)) (J5.body.drop 3) (j9 Q),t6 (λ_=>True) (.n 5) (i5 (Zg P G (n+1)) (match J5.body.drop 2 with|.cons (.for _ _ b) _=>b|_=>.nil)) ⟨i5 (Zg P G (n+1)) (J5.body.drop 3) (j9 Q),(j9 Q).rt,(j9 Q).bk,(j9 Q).ct⟩ ds⟩ [AA (.ref da),AA (.int most),AA (.int lines),AA (.tup (Γ.map Kd.d)),AA (.int (F5 Γ:Nat)),AA d,AA k.d] st4:=by
   intro k v h s;∎;have j:(if(k.cnt:Int)>1 then(k.cnt:Int)else 1)=((max 1 k.cnt:Nat):Int):=by split<;>lia
   have o:((F5 Γ:Nat):Int)*((max 1 k.cnt:Nat):Int)=((F5 (Γ++[k]):Nat):Int):=by rw[a09];exact(Int.natCast_mul _ _).symm
   refine⟨by rw[B.count];rfl,N4 B.toPB0 k (m:=16) ⋯ (ab5 h) ∅ ?_⟩;rfl';rw[j,o];refine⟨W0 ⟨⋯,⋯⟩,?_⟩
   by_cases f:((F5 (Γ++[k]):Nat):Int)<=(lines:Nat)
   ·simp only[f,if_true];∎;refine⟨by rw[B.count];rfl,N4 B.toPB0 k (m:=16) ⋯ (ab5 h) ∅ ?_⟩;rfl';rw[j,o];refine⟨W0 ⟨⋯,⋯⟩,?_⟩;simp only[AY]at h1;∎;refine⟨aa5 (by simp only[AV];lia),ih _ _ ⟨I4,g,Γ++[k],_,_,by rw[Af];rfl,by simp;lia,λc e=>?_,⋯⟩⟩
    rcases Bf.mp e with e|e
    ·exact h2 c e
    ·simp only[Bx]at e;subst e;exact⟨v,h,s⟩
   ·simp only[f,if_false];simp only[AY]at h1;exact ih _ _ ⟨I4,g,Γ,_,_,rfl,⋯,h2,h3⟩
  rfl'
  by_cases p:r4=1
  ·simp only[p,if_true];∎;exact fin .non (.inr rfl) trivial (BU _)
  ·simp only[p,if_false];exact fin k (.inl g3) b3 n3
end
structure PIn(P:i6)(G:Gs):Prop where
 inner:P "inner"=AA ar0
 more:P "names_more"=AA al7
 tab:G.tab "INNER_FROM"=c63
 tab2:G.tab "UNDER_ONE_MORE"=c13
structure PNm(P:i6)(G:Gs):Prop extends PM P G,PIn P G where
 winner:P "with_inner"=AA d_with_inner
 lift:P "lifted"=AA d_lifted
 put:P "put_in"=AA d_put_in
 copy:P "copy_under"=AA d_copy_under
 wparts:P "with_parts"=AA d_with_parts
 under:P "inner_under"=AA d_inner_under
section
variable (J:PIn P G) 
include J
def bw9(p:Pg)(q:∀a,st a=AE->Q (.ref a) (b0 st a (.lst (p.kids.map Pg.d)))):sem P G (n+1) "inner" [p.d] st Q:=by
 refine i8 J.inner rfl [AA p.d] rfl ?_;cases p<;>simp only[Pg.d]
 all_goals
  ∎;refine⟨by show G.tab "INNER_FROM"≠[];rw[J.tab];exact λz=>(by cases z),?_⟩;simp only[J.tab];refine⟨_,rfl,_,rfl,∅,λa ha=>c0 (q a ha)⟩
def a97(p:Pg)(i:Nat)(q:Q (.int (p.more i:Nat)) st):sem P G (n+1) "names_more" [p.d,.int i] st Q:=by
 refine i8 J.more rfl [AA p.d,AA (.int i)] rfl ?_;cases p<;>simp only[Pg.d]
 all_goals
  ∎;refine⟨by show G.tab "UNDER_ONE_MORE"≠[];rw[J.tab2];exact λz=>(by cases z),?_⟩;simp only[J.tab2];refine⟨_,rfl,?_⟩
 case case=>
  show p7 .In (.int i) (.ktup [.inl 1,.inl 2]) _ _;rw[at9];rfl'
  by_cases h:i=1\/i=2
  ·rw[if_pos (by simp;lia)];simp only[Pg.more,if_pos h]at q;exact c0 q
  ·rw[if_neg (by simp;lia)];simp only[Pg.more,if_neg h]at q;exact c0 q
 case way=>
  show p7 .In (.int i) (.ktup [.inl 0]) _ _;rw[at9];rfl'
  by_cases h:i=0
  ·rw[if_pos (by simp;lia)];simp only[Pg.more,if_pos h]at q;exact c0 q
  ·rw[if_neg (by simp;lia)];simp only[Pg.more,if_neg h]at q;exact c0 q
 case lets=>
  show p7 .In (.int i) (.ktup [.inl 1]) _ _;rw[at9];rfl'
  by_cases h:i=1
  ·rw[if_pos (by simp;lia)];simp only[Pg.more,if_pos h]at q;exact c0 q
  ·rw[if_neg (by simp;lia)];simp only[Pg.more,if_neg h]at q;exact c0 q
 all_goals
  show p7 .In (.int i) (.tup []) _ _;refine⟨rfl,rfl,BU _,?_⟩;rfl';exact c0 q
end
structure PKd(P:i6)(G:Gs):Prop extends PSh P G where
 lkd:P (c9 "Shelf" "laid_kind")=AA Y0
 blt:P (c9 "Shelf" "built")=AA al2
 ptb:P (c9 "Shelf" "put_by")=AA ak4
 tku:P (c9 "Shelf" "taken_up")=AA aj6
 dfl:z8 G.cls (c9 "Shelf" "laid_kind")=AA 3
structure ShD(sh dn sa pa wa:AI):Prop where
 nd:[sh,dn,sa,pa].Nodup
 wd:wa∉[dn,sa,pa]
 ws:wa≠sh
@[reducible]noncomputable def shL(sh dn sa pa wa:AI):List AI:=[sh,dn,sa,pa,wa]
def U5{S}{t}(w:Wf S')(h:Has S t)(b:S <+: S'):nb S' t=nb S t:=by
 obtain⟨e,a,c⟩:=P5 h;obtain⟨l,rfl⟩:=b;exact ah2 w (Aa (AT.mp a).1▸a) c
def cc1:dsz (.tup [.str w])=1:=rfl
def ci1{a:Kd}:dsz (.tup [.str w,a.d,b.d])=1+(dsz a.d+dsz b.d):=by
 obtain⟨l,e⟩:=aa6 a;obtain⟨c,f⟩:=aa6 b;rw[Y7,e,f];show 1+(dsz (.tup l)+dsz (.tup c)+0)=_;lia
section
variable (T:PKd P G) {S:List It3} {wo:Ob}
include T
def aq8{inn}(A:ShA sh dn sa pa wa S st)(c:ShD sh dn sa pa wa)(f:st wa=AA wo)(hi:∀d∈inn,Has S d)(l:inn.length<=1000)(o:S.length<900000)
  (q:∀b a,Has b (.tup (.str w::inn))->S <+: b->b.length<=S.length+1->ShA sh dn sa pa wa b a->a wa=AA wo->Kp (shL sh dn sa pa wa) st a->Q (.int (nb b (.tup (.str w::inn)))) a):sem P G (n+1) (c9 "Shelf" "numbered") [.ref sh,.tup [.str w],B4 (inn.map (nb S))] st Q:=by
 refine ax2 T.toPSh A c.nd (inn:=inn) ac3 ∎ (λj m hm=>?_) ∎ (by simp_all) ⋯ λm b a A' hp hl' hm K=>?_
 ·rw[Ak]at hm;cases e:inn[j]? with
  |none=>simp_all
  |some d=>
   rw[e]at hm;cases hm;obtain⟨k,i,h⟩:=P5 (hi d (Az e));exact⟨k,i,by rw[h]⟩
 ·have g:=ah2 A'.wf hm rfl;rw[<-g];exact q b a ⟨m,_,hm,rfl⟩ hp hl' A' (K.at' f c.wd) (K.more ∎)
def Y1{a:Kd}(A:ShA sh dn sa pa wa S st)(j:ShD sh dn sa pa wa)(f:st wa=AA wo)(h:Has S a.d)(g:Has S b.d)(i:S.length<900000)
  (q:∀S' c,Has S' (.tup [.str w,a.d,b.d])->S <+: S'->S'.length<=S.length+1->ShA sh dn sa pa wa S' c->c wa=AA wo->Kp (shL sh dn sa pa wa) st c->Q (.int (nb S' (.tup [.str w,a.d,b.d]))) c):sem P G (n+2) (c9 "Shelf" "built") [.ref sh,.str w,.int (nb S a.d),.int (nb S b.d:Nat)] st Q:=by
 refine i8 T.blt rfl [AA (.ref sh),AA (.str w),AA (.int (nb S a.d)),AA (.int (nb S b.d))] rfl ?_;∎;refine⟨sh,"Shelf",_,rfl,A.ins,rfl,by rw[T.numb];rfl,?_⟩;exact aq8 T A j f (by simp[h,g]) ∎ i λS' c h1 h2 h3 h4 h5 h6=>c0 (q S' c h1 h2 h3 h4 h5 h6)
abbrev LdQ(sh dn sa pa wa:AI)(S:List It3)(wo:Ob)(st:Sto)(k:Kd)(Q:DK):Prop:=∀S' st',Has S' k.d->S <+: S'->S'.length<=S.length+dsz k.d->ShA sh dn sa pa wa S' st'->st' wa=AA wo->Kp (shL sh dn sa pa wa) st st'->Q (.int (nb S' k.d:Nat)) st'
def b41:∀(k:Kd)(deep:Nat){n:Nat}{st:Sto}{Q:DK}{S:List It3},deep+8<=n->k.nest<=9->ShA sh dn sa pa wa S st->ShD sh dn sa pa wa->st wa=AA wo->S.length+dsz k.d<=900000->LdQ sh dn sa pa wa S wo st k Q->sem P G n (c9 "Shelf" "laid_kind") [.ref sh,k.d,.int deep] st Q:=by
 intro k;have one:∀(w:String)(k:Kd),k.d=.tup [.str w]->∀(deep:Nat){n:Nat}{st:Sto}{Q:DK}{S:List It3},deep+8<=n->ShA sh dn sa pa wa S st->ShD sh dn sa pa wa->st wa=AA wo->S.length+dsz k.d<=900000->LdQ sh dn sa pa wa S wo st k Q->sem P G n (c9 "Shelf" "laid_kind") [.ref sh,k.d,.int deep] st Q:=by
  intro w k p deep n st Q S g A j o l q;unfold LdQ at q;rw[p]at l q ⊢;rw[cc1]at l q;obtain⟨n,rfl⟩:∃m,n=m+2:=⟨n-2,⋯⟩;refine i8 T.lkd rfl [AA (.ref sh),AA (.tup [.str w]),AA (.int deep)] rfl ?_;∎;∎;refine⟨sh,"Shelf",_,rfl,A.ins,rfl,by rw[T.numb];rfl,?_⟩;exact aq8 T (inn:=[]) A j o ∎ ∎ ⋯ λS' st' h1 h2 h3 h4 h5 h6=>c0 (q S' st' h1 h2 h3 h4 h5 h6)
 have h:∀(w:String)(k a b:Kd),k.d=.tup [.str w,a.d,b.d]->1+max a.nest b.nest<=k.nest->k.nest<=9 ->
   (∀(deep:Nat){n:Nat}{st:Sto}{Q:DK}{S:List It3},deep+8<=n->a.nest<=9->ShA sh dn sa pa wa S st->ShD sh dn sa pa wa->st wa=AA wo->S.length+dsz a.d<=900000->LdQ sh dn sa pa wa S wo st a Q->sem P G n (c9 "Shelf" "laid_kind") [.ref sh,a.d,.int deep] st Q) ->
   (∀(deep:Nat){n:Nat}{st:Sto}{Q:DK}{S:List It3},deep+8<=n->b.nest<=9->ShA sh dn sa pa wa S st->ShD sh dn sa pa wa->st wa=AA wo->S.length+dsz b.d<=900000->LdQ sh dn sa pa wa S wo st b Q->sem P G n (c9 "Shelf" "laid_kind") [.ref sh,b.d,.int deep] st Q) ->
   ∀(deep:Nat){n:Nat}{st:Sto}{Q:DK}{S:List It3},deep+8<=n->ShA sh dn sa pa wa S st->ShD sh dn sa pa wa->st wa=AA wo->S.length+dsz k.d<=900000->LdQ sh dn sa pa wa S wo st k Q->sem P G n (c9 "Shelf" "laid_kind") [.ref sh,k.d,.int deep] st Q:=by
  intro w k a b p C D f e deep n st Q S g A j o l q;have B:=P4 k;have z:2^(k.nest+1)<=2^10:=BY ∅ ⋯;have r:=T2 k;unfold LdQ at q;rw[p]at l q B r ⊢;obtain⟨n,rfl⟩:∃m,n=m+3:=⟨n-3,⋯⟩;refine i8 T.lkd rfl [AA (.ref sh),AA (.tup [.str w,a.d,b.d]),AA (.int deep)] rfl ?_;∎;∎
  by_cases E:(deep:Int)=0
  ·simp only[E,if_true];∎;refine⟨sh,"Shelf",_,rfl,A.ins,rfl,by rw[T.laid];rfl,?_⟩;obtain⟨n,rfl⟩:∃m,n=m+1:=⟨n-1,⋯⟩;refine b25 T.toPSh (n:=n) ⋯ A j.nd o j.wd r ⋯ ⋯ λd S' st' v h1 h2 h3 h4 h5=>?_;obtain⟨x,rfl⟩:=cy4 h3.wf v;exact c0 (q S' st' x h1 h2 h3 h4 h5)
  ·obtain⟨deep,rfl⟩:∃m,deep=m+1:=⟨deep-1,⋯⟩;have F:((deep+1:Nat):Int)-1=(deep:Nat):=by lia
   rw[ci1]at l q;∎;refine⟨sh,"Shelf",_,rfl,A.ins,rfl,by rw[T.blt];rfl,sh,"Shelf",_,rfl,A.ins,rfl,by rw[T.lkd];rfl,?_⟩;rw[F];refine f deep ⋯ ⋯ A j o ⋯ λS1 st1 a1 a2 a3 A1 a5 a6=>?_;refine⟨sh,"Shelf",_,rfl,A1.ins,rfl,by rw[T.lkd];rfl,?_⟩;refine e deep ⋯ ⋯ A1 j a5 ⋯ λS2 st2 b1 b2 b3 A2 b5 b6=>?_;rw[<-U5 A2.wf a1 b2];exact Y1 T A2 j b5 (a1.mono b2) b1 ⋯ λS3 st3 c1 c2 c3 c4 c5 c6=>c0 (q S3 st3 c1 ((a2.trans b2).trans c2) ⋯ c4 c5 ((a6.trans b6).trans c6))
 induction k with
 |non=>exact λdeep{n st Q S}g _=>one "none" .non rfl deep g
 |one=>exact λdeep{n st Q S}g _=>one "one" .one rfl deep g
 |eith a b f e=>exact λdeep{n st Q S}g h9=>h "either" (.eith a b) a b rfl (AX _) h9 f e deep g
 |both a b f e=>exact λdeep{n st Q S}g h9=>h "both" (.both a b) a b rfl (AX _) h9 f e deep g
 |way a b f e=>exact λdeep{n st Q S}g h9=>h "way" (.way a b) a b rfl (AX _) h9 f e deep g
end
def W7{k:Kd}(h:k.nest<=6):dsz k.d<=127:=by
 have:=P4 k;have:2^(k.nest+1)<=2^7:=BY ∅ ⋯;lia
abbrev B9(S:List It3)(w:Kd×Bool):D:=.tup [w.1.d,if w.2=AC then .int (nb S w.1.d:Nat)else .non]
structure KA(sh dn sa pa wa:AI)(S:List It3)(ws:List (Kd×Bool))(st:Sto):Prop where
 A:ShA sh dn sa pa wa S st
 D0:ShD sh dn sa pa wa
 W:st wa=AA (.lst (ws.map (B9 S)))
 H:∀w∈ws,w.2=AC->Has S w.1.d
 N:∀w∈ws,w.1.nest<=6
 L:ws.length<=2000
section
variable {S:List It3} 
def cb8(b:Wf S')(c:S <+: S'){w}(h:w.2=AC->Has S w.1.d):B9 S' w=B9 S w:=by
 unfold B9
 by_cases a:w.2=AC
 ·rw[if_pos a,if_pos a,U5 b (h a) c]
 ·rw[if_neg a,if_neg a]
def KA.up(k:KA sh dn sa pa wa S ws st)(b:ShA sh dn sa pa wa S' st')(a:S <+: S')(c:st' wa=AA (.lst (ws.map (B9 S)))):KA sh dn sa pa wa S' ws st':=
 ⟨b,k.D0,(c▸congrArg (λl=>AA (Ob.lst l)) (Im λw hm=>(cb8 b.wf a (k.H w hm)).symm)),λw hm hb=>(k.H w hm hb).mono a,k.N,k.L⟩
theorem KA.keepL(k:KA sh dn sa pa wa S ws st)(K:Kp L st st')(h:∀x∈L,x∉shL sh dn sa pa wa):KA sh dn sa pa wa S ws st':=
 ⟨k.A.keepL K h,k.D0,K.at' k.W (λz=>h wa z ∎),k.H,k.N,k.L⟩
def KA.keep(k:KA sh dn sa pa wa S ws st)(K:Kp [] st st'):=k.keepL K ∎
abbrev En(S:List It3)(ws:List (Kd×Bool))(e:Int)(k:Kd):Prop:=(e=(nb S k.d:Nat)/\Has S k.d)\/∃(j:Nat)(b:Bool),e=-((j:Int)+1)/\ws[j]?=AA (k,b)
abbrev WUp(ws ws':List (Kd×Bool)):Prop:=ws'.map (·.1)=ws.map (·.1)
def En.up{e}{k}(h:En S ws e k)(d:Wf S')(c:S <+: S')(f:WUp ws ws'):En S' ws' e k:=by
 rcases h with⟨rfl,h⟩|⟨j,b,rfl,h⟩
 ·exact .inl ⟨by rw[U5 d h c],h.mono c⟩
 ·have a:(ws'.map (·.1))[j]?=AA k:=by rw[f,Ak,h];rfl
  rw[Ak]at a;cases e2:ws'[j]? with
  |none=>simp_all
  |some x=>
   rw[e2]at a;cases a;exact .inr ⟨j,x.2,rfl,e2⟩
structure KnOk(S:List It3)(ws:List (Kd×Bool))(Γ:List Kd)(kn:List Int):Prop where
 len:kn.length=Γ.length
 at':∀(m:Nat)k,Γ[m]?=AA k->∃e,kn.reverse[m]?=AA e/\En S ws e k
theorem KnOk.up{kn}(h:KnOk S ws Γ kn)(a:Wf S')(c:S <+: S')(b:WUp ws ws'):KnOk S' ws' Γ kn:=
 ⟨h.len,λm k hk=>let⟨e,f,d⟩:=h.at' m k hk;⟨e,f,d.up a c b⟩⟩
def KnOk.cons{kn}{k}{e}(h:KnOk S ws Γ kn)(d:En S ws e k):KnOk S ws (k::Γ) (kn++[e]):=
 ⟨by simp[h.len],λm c hc=>by
  rw[Io];cases m with
  |zero=>cases hc;exact⟨e,rfl,d⟩
  |succ m=>exact h.at' m c hc⟩
theorem WUp.trans{w1 w2 w3}(a:WUp w1 w2)(b:WUp w2 w3):WUp w1 w3:=Kl b a
end
section
variable (T:PKd P G) {S:List It3} 
include T
def W3{k:Kd}(f:11<=n)(c:k.nest<=9)(K:KA sh dn sa pa wa S ws st)(e:S.length+dsz k.d<=900000)
  (q:∀S' a,Has S' k.d->S <+: S'->S'.length<=S.length+dsz k.d->KA sh dn sa pa wa S' ws a->Kp (shL sh dn sa pa wa) st a->Q (.int (nb S' k.d)) a):sem P G n (c9 "Shelf" "laid_kind") [.ref sh,k.d,.int 3] st Q:=
 b41 T k 3 ⋯ c K.A K.D0 K.W e λS' a h1 h2 h3 h4 h5=>q S' a h1 h2 h3 (K.up h4 h2 h5)
def bx8{k:Kd}(K:KA sh dn sa pa wa S ws st)(h:k.nest<=6)(l:ws.length<2000)(q:∀b,KA sh dn sa pa wa S (ws++[(k,AG)]) b->Kp [wa] st b->Q (.int (-((ws.length:Int)+1))) b):sem P G (n+1) (c9 "Shelf" "put_by") [.ref sh,k.d] st Q:=by
 refine i8 T.ptb rfl [AA (.ref sh),AA k.d] rfl ?_;unfold ak4;have c:(("waiting":Str))∈G.cls "Shelf":=by rw[T.cls];simp
 ∎;refine⟨sh,"Shelf",_,.ref wa,rfl,K.A.ins,c,rfl,?_⟩;rw[B0 (.inl K.W)];refine⟨trivial,?_⟩;rw[D6 K.W];refine⟨D5 (by simp only[AV];lia),?_⟩;have j:Kp [wa] st (b0 st wa (.lst (ws.map (B9 S)++[.tup [k.d,.non]]))):=Kp.refl.put ∎;have f:b0 st wa (.lst (ws.map (B9 S)++[.tup [k.d,.non]])) wa=AA (.lst ((ws++[(k,AG)]).map (B9 S))):=by rw[f7,Af];rfl
 have g:ShA sh dn sa pa wa S (b0 st wa (.lst (ws.map (B9 S)++[.tup [k.d,.non]]))):=by
  have d:=K.D0;have w:=d.wd;simp only[AR,AW,or_false,not_or]at w;exact⟨f6 K.A.ins (λz=>d.ws z.symm),f6 K.A.num (λz=>w.1 z.symm),f6 K.A.sto (λz=>w.2.1 z.symm),f6 K.A.par (λz=>w.2.2 z.symm),⟨_,f7⟩,K.A.wf,K.A.ml,K.A.fl⟩
 have i:KA sh dn sa pa wa S (ws++[(k,AG)]) (b0 st wa (.lst (ws.map (B9 S)++[.tup [k.d,.non]]))):=by
  refine⟨g,K.D0,f,λw a hb=>?_,λw a=>?_,by simp;lia⟩
  ·rcases Bf.mp a with a|a
   ·exact K.H w a hb
   ·simp at a;subst a;cases hb
  ·rcases Bf.mp a with a|a
   ·exact K.N w a
   ·simp at a;subst a;exact h
 ∎;refine⟨sh,"Shelf",_,.ref wa,rfl,g.ins,c,rfl,?_⟩;rw[v6 (.inl f)];rfl';have e:-(((ws++[(k,AG)]).map (B9 S)).length:Int)=-((ws.length:Int)+1):=by simp
 rw[e];exact c0 (q _ i j)
def bp4{k:Kd}{e:Int}(y:12<=n)(K:KA sh dn sa pa wa S ws st)(h:En S ws e k)(B:S.length+128<=900000)
  (q:∀S' g a,Has S' k.d->S <+: S'->S'.length<=S.length+128->KA sh dn sa pa wa S' g a->WUp ws g->Kp (shL sh dn sa pa wa) st a->Q (.int (nb S' k.d:Nat)) a):sem P G n (c9 "Shelf" "taken_up") [.ref sh,.int e] st Q:=by
 obtain⟨n,rfl⟩:∃m,n=m+1:=⟨n-1,⋯⟩;refine i8 T.tku rfl [AA (.ref sh),AA (.int e),AE] rfl ?_;have r:(("waiting":Str))∈G.cls "Shelf":=by rw[T.cls];simp
 ∎
 rcases h with⟨rfl,h⟩|⟨j,b,rfl,h⟩
 ·rw[if_pos ⋯];∎;exact c0 (q S ws st h (CI _) ⋯ K rfl Kp.refl)
 ∎;refine⟨sh,"Shelf",_,.ref wa,rfl,K.A.ins,r,rfl,?_⟩;have s:(-1:Int) - -((j:Int)+1)=(j:Nat):=by lia
 rw[s,l6 (.inl K.W)];refine⟨B9 S (k,b),by rw[C8,Ak,h];rfl,?_⟩;have l:=K.N _ (Az h);have t:=(AT.mp h).1;cases b with
 |true=>
  have p:B9 S (k,AC)=.tup [k.d,.int (nb S k.d:Nat)]:=rfl;have u:=K.H _ (Az h) rfl;rw[p];∎;refine .inr ⟨nofun,?_⟩;rfl';∎;exact c0 (q S ws st u (CI _) ⋯ K rfl Kp.refl)
 |false=>
  have p:B9 S (k,AG)=.tup [k.d,.non]:=rfl;rw[p];∎;refine .inl ?_;∎;refine⟨sh,"Shelf",_,3,rfl,K.A.ins,rfl,by rw[T.lkd];rfl,T.dfl,?_⟩;have x:dsz k.d<=127:=W7 (k:=k) l;refine W3 T ⋯ (by show k.nest<=9;have:k.nest<=6:=l;lia) K ⋯ λS' a h1 h2 h3 K' K2=>?_;rfl';∎;refine⟨sh,"Shelf",_,.ref wa,rfl,K'.A.ins,r,rfl,?_⟩;rw[s];refine⟨wa,(j:Nat),j,_,rfl,rfl,K'.W,?_,?_⟩
  ·unfold ixN;rw[if_pos ⋯,if_pos (by simp;lia)];simp
  have i:wa∉[dn,sa,pa]/\wa≠sh:=⟨K.D0.wd,K.D0.ws⟩;simp only[AR,AW,or_false,not_or]at i;have v:∀o,ShA sh dn sa pa wa S' (b0 a wa o):=λo=>⟨f6 K'.A.ins (λz=>i.2 z.symm),f6 K'.A.num (λz=>i.1.1 z.symm),f6 K'.A.sto (λz=>i.1.2.1 z.symm),f6 K'.A.par (λz=>i.1.2.2 z.symm),⟨_,f7⟩,K'.A.wf,K'.A.ml,K'.A.fl⟩;have el:(ws.map (B9 S')).set j (.tup [k.d,.int (nb S' k.d:Nat)])=(ws.set j (k,AC)).map (B9 S'):=by rw[Kq];rfl
  rw[el];∎;refine c0 (q S' (ws.set j (k,AC)) _ h1 h2 ⋯ ⟨v _,K.D0,f7,λw f hb=>?_,λw f=>?_,by simpa using K.L⟩ ?_ (K2.put ∎))
  ·rcases Hb f with f|rfl
   ·exact K'.H w f hb
   ·exact h1
  ·rcases Hb f with f|rfl
   ·exact K.N w f
   ·exact l
  ·unfold WUp;rw[Kq];refine HL λi=>?_;rw[Fb]
   split
   ·rename_i hi;subst hi;rw[Ak,h,if_pos (by simpa using t)];rfl
   ·rfl
end
abbrev Pg.kk(Γ:List Kd):Pg->List Kd->Option Kd
 |.name n,[]=>Γ[n]?
 |.star,[]=>AA .one
 |.pair _ _,[a,b]=>AA (.both a b)
 |.first _,[.both a _]=>AA a
 |.second _,[.both _ b]=>AA b
 |.left b _,[a]=>AA (.eith a b)
 |.right a _,[b]=>AA (.eith a b)
 |.case _ _ _,[.eith _ _,k,l]=>if k=l then AA k else AE
 |.way a _,[b]=>AA (.way a b)
 |.give _ _,[.way a b,c]=>if a=c then AA b else AE
 |.lets _ _,[_,k]=>AA k
 |.never k _,[.non]=>AA k
 |_,_=>AE
abbrev Pg.nw:Pg->List Kd->Nat->Option Kd
 |.way a _,_,_=>AA a
 |.lets _ _,ks,_=>ks.head?
 |.case _ _ _,.eith a b::_,i=>AA (if i=1 then a else b)
 |_,_,_=>AE
abbrev Cxt(p:Pg)(ks:List Kd)(i:Nat)(Γ Δ:List Kd):Prop:=(p.more i=0/\Δ=Γ)\/(p.more i=1/\∃a,p.nw ks i=AA a/\Δ=a::Γ)
def Pg.kind_inv{k:Kd}(h:p.kind Γ=AA k):∃ks:List Kd,ks.length=p.kids.length/\p.kk Γ ks=AA k/\∀(i:Nat)c,p.kids[i]?=AA c->∃a e,ks[i]?=AA a/\Cxt p (ks.take i) i Γ e/\c.kind e=AA a:=by
 cases W9 h
 case name=>exact⟨[],rfl,h,λi c d=>nomatch d⟩
 case star=>exact⟨[],rfl,h,λi c d=>nomatch d⟩
 case first t b h1=>exact⟨[.both k b],rfl,rfl,λi c d=>match i,d with
  |0,d=>by cases d;exact⟨_,Γ,rfl,.inl ⟨rfl,rfl⟩,h1.kind⟩
  |i+1,d=>nomatch d⟩
 case second t a h1=>exact⟨[.both a k],rfl,rfl,λi c d=>match i,d with
  |0,d=>by cases d;exact⟨_,Γ,rfl,.inl ⟨rfl,rfl⟩,h1.kind⟩
  |i+1,d=>nomatch d⟩
 case left t a b h1=>exact⟨[a],rfl,rfl,λi c d=>match i,d with
  |0,d=>by cases d;exact⟨_,Γ,rfl,.inl ⟨rfl,rfl⟩,h1.kind⟩
  |i+1,d=>nomatch d⟩
 case right t a b h1=>exact⟨[b],rfl,rfl,λi c d=>match i,d with
  |0,d=>by cases d;exact⟨_,Γ,rfl,.inl ⟨rfl,rfl⟩,h1.kind⟩
  |i+1,d=>nomatch d⟩
 case never t h1=>exact⟨[.non],rfl,rfl,λi c d=>match i,d with
  |0,d=>by cases d;exact⟨_,Γ,rfl,.inl ⟨rfl,rfl⟩,h1.kind⟩
  |i+1,d=>nomatch d⟩
 case way t a b h1=>exact⟨[b],rfl,rfl,λi c d=>match i,d with
  |0,d=>by cases d;exact⟨_,a::Γ,rfl,.inr ⟨rfl,a,rfl,rfl⟩,h1.kind⟩
  |i+1,d=>nomatch d⟩
 case pair t u a b h1 h2=>exact⟨[a,b],rfl,rfl,λi c d=>match i,d with
  |0,d=>by cases d;exact⟨_,Γ,rfl,.inl ⟨rfl,rfl⟩,h1.kind⟩
  |1,d=>by cases d;exact⟨_,Γ,rfl,.inl ⟨rfl,rfl⟩,h2.kind⟩
  |i+2,d=>nomatch d⟩
 case give t u a h2 h1=>exact⟨[.way a k,a],rfl,if_pos rfl,λi c d=>match i,d with
  |0,d=>by cases d;exact⟨_,Γ,rfl,.inl ⟨rfl,rfl⟩,h1.kind⟩
  |1,d=>by cases d;exact⟨_,Γ,rfl,.inl ⟨rfl,rfl⟩,h2.kind⟩
  |i+2,d=>nomatch d⟩
 case lets t u a h1 h2=>exact⟨[a,k],rfl,rfl,λi c d=>match i,d with
  |0,d=>by cases d;exact⟨_,Γ,rfl,.inl ⟨rfl,rfl⟩,h1.kind⟩
  |1,d=>by cases d;exact⟨_,a::Γ,rfl,.inr ⟨rfl,a,rfl,rfl⟩,h2.kind⟩
  |i+2,d=>nomatch d⟩
 case case t u v a b h1 h2 h3=>exact⟨[.eith a b,k,k],rfl,if_pos rfl,λi c d=>match i,d with
  |0,d=>by cases d;exact⟨_,Γ,rfl,.inl ⟨rfl,rfl⟩,h1.kind⟩
  |1,d=>by cases d;exact⟨_,a::Γ,rfl,.inr ⟨rfl,a,rfl,rfl⟩,h2.kind⟩
  |2,d=>by cases d;exact⟨_,b::Γ,rfl,.inr ⟨rfl,b,rfl,rfl⟩,h3.kind⟩
  |i+3,d=>nomatch d⟩
abbrev cx1:List (Str×D):=[("name",.fn "kind_of_name"),("star",.fn "kind_of_star"),("pair",.fn "kind_of_pair"),("first",.fn "kind_of_first"),("second",.fn "kind_of_second"),("left",.fn "kind_of_left"),("right",.fn "kind_of_right"),("case",.fn "kind_of_case"),("way",.fn "kind_of_way"),("give",.fn "kind_of_give"),("let",.fn "kind_of_let"),("never",.fn "kind_of_never")]
structure PKo(P:i6)(G:Gs):Prop extends PKd P G,PIn P G where
 kbp:P "kind_by_parts"=AA ad6
 nnm:P "new_name"=AA ae4
 hvs:P "halves_of"=AA ae1
 k0:P "kind_of_name"=AA ae0
 k1:P "kind_of_star"=AA ak7
 k2:P "kind_of_pair"=AA ak5
 k3:P "kind_of_first"=AA ad5
 k4:P "kind_of_second"=AA ad3
 k5:P "kind_of_left"=AA ak3
 k6:P "kind_of_right"=AA ak2
 k7:P "kind_of_case"=AA ad7
 k8:P "kind_of_way"=AA al3
 k9:P "kind_of_give"=AA ad8
 k10:P "kind_of_let"=AA al1
 k11:P "kind_of_never"=AA ad4
 tbw:G.tab "BY_WORD"=cx1
abbrev t9(S:List It3)(ks:List Kd):List D:=ks.map λk=>.int (nb S k.d:Nat)
section
variable (T:PKo P G) {S:List It3} 
include T
def Y2{k a:Kd}(f:k.d=.tup [.str w,a.d,b.d])(K:KA sh dn sa pa wa S ws st)(h:Has S k.d)(q:Has S a.d->Has S b.d->Q (.tup [.int (nb S a.d:Nat),.int (nb S b.d:Nat)]) st):sem P G (n+2) "halves_of" [.str w,.int (nb S k.d:Nat),.ref sh] st Q:=by
 refine i8 T.hvs rfl [AA (.str w),AA (.int (nb S k.d:Nat)),AA (.ref sh)] rfl ?_;rw[f]at h ⊢;have c:∀d∈[a.d,b.d],∃l,d=.tup l:=λd hd=>by simp at hd;rcases hd with rfl|rfl<;>exact aa6 _
 obtain⟨e,_⟩:=bh8 K.A.wf (fr:=[.str w]) (inn:=[a.d,b.d]) h ac3 c;∎;refine⟨sh,"Shelf",_,rfl,K.A.ins,rfl,by rw[T.word];rfl,af8 T.toPSh K.A h ?_⟩;rfl';∎;refine⟨sh,"Shelf",_,rfl,K.A.ins,rfl,by rw[T.wthn];rfl,bx0 T.toPSh K.A (fr:=[.str w]) (inn:=[a.d,b.d]) h ac3 c ?_⟩;exact c0 (q (e _ ∎) (e _ ∎))
end
abbrev Pg.told(m:Nat):Pg->Prop
 |.left b _=>b.nest<=m
 |.right b _=>b.nest<=m
 |.way b _=>b.nest<=m
 |.never b _=>b.nest<=m
 |_=>True
def Pg.told_kn(h:p.kn m):p.told m:=by cases p<;>first|trivial|exact h.1
abbrev StQ(sh dn sa pa wa:AI)(S:List It3)(ws:List (Kd×Bool))(st:Sto)(k:Kd)(Q:DK):Prop:=∀S' ws' st',Has S' k.d->S <+: S'->S'.length<=S.length+128->KA sh dn sa pa wa S' ws' st'->WUp ws ws'->Kp (shL sh dn sa pa wa) st st'->Q (.int (nb S' k.d:Nat)) st'
section
variable (T:PKo P G) {S:List It3} 
include T
def bq6{a:Kd}(s:14<=n)(K:KA sh dn sa pa wa S ws st)(h:p.told 6)(g:p.more i=1)(c:p.nw ks i=AA a)(l:st ca=AA (.lst (t9 S ks)))(j:∀k∈ks,Has S k.d)(z:S.length+128<=900000)
  (q:StQ sh dn sa pa wa S ws st a Q):sem P G n "new_name" [p.d,.ref ca,.int i,.ref sh] st Q:=by
 obtain⟨n,rfl⟩:∃m,n=m+3:=⟨n-3,⋯⟩;refine i8 T.nnm rfl [AA p.d,AA (.ref ca),AA (.int i),AA (.ref sh)] rfl ?_;cases p<;>first|(cases c;done)|skip
 case case t u v=>
  cases ks with
  |nil=>cases c
  |cons k0 ks=>
   cases k0<;>first|(cases c;done)|skip
   rename_i x y;simp only[Pg.d];(iterate 3 ∎);refine⟨by rw[T.hvs];rfl,?_⟩;rw[l6 (.inl l)];refine⟨.int (nb S (Kd.eith x y).d:Nat),by rw[ai1];rfl,?_⟩;refine Y2 T (w:="either") (k:=.eith x y) rfl K (j _ ∎) λh1 h2=>?_;rfl';simp only[Pg.more]at g;have hi:i=1\/i=2:=by
    split at g
    ·assumption
    ·cases g
   rcases hi with rfl|rfl
   ·cases c;exact⟨_,rfl,c0 (q S ws st h1 (CI _) ⋯ K rfl Kp.refl)⟩
   ·cases c;exact⟨_,rfl,c0 (q S ws st h2 (CI _) ⋯ K rfl Kp.refl)⟩
 case way b t=>
  cases c;simp only[Pg.d];(iterate 2 ∎);refine⟨sh,"Shelf",_,3,rfl,K.A.ins,rfl,by rw[T.lkd];rfl,T.dfl,?_⟩;have r:=W7 h;have o:a.nest<=6:=h;exact W3 T.toPKd ⋯ ⋯ K ⋯ λS' st' h1 h2 h3 h4 h5=>c0 (q S' ws st' h1 h2 ⋯ h4 rfl h5)
 case lets t u=>
  cases ks with
  |nil=>cases c
  |cons k0 ks=>
   cases c;simp only[Pg.d];(iterate 3 ∎);rw[l6 (.inl l)];exact⟨.int (nb S a.d:Nat),by rw[ai1];rfl,c0 (q S ws st (j _ ∎) (CI _) ⋯ K rfl Kp.refl)⟩
def cs8{k:Kd}{C:List Int}(N:16<=n)(K:KA sh dn sa pa wa S ws st)(E:p.told 6)(f:p.kk Γ ks=AA k)(l:st ca=AA (.lst (t9 S ks)))(j:∀k∈ks,Has S k.d)(o:st ka=AA (.lst (C.map D.int)))(x:KnOk S ws Γ C)(y:ca∉shL sh dn sa pa wa)(U:S.length+128<=900000)
  (q:StQ sh dn sa pa wa S ws st k Q):sem P G n "kind_by_parts" [p.d,.ref ca,.ref ka,.ref sh] st Q:=by
 obtain⟨n,rfl⟩:∃m,n=m+5:=⟨n-5,⋯⟩;have L:(Zg P G (n+4)).G "BY_WORD"≠[]:=by show G.tab "BY_WORD"≠[];rw[T.tbw];exact λz=>by cases z
 have g:∀{k:Kd},StQ sh dn sa pa wa S ws st k Q->Has S k.d->Q (.int (nb S k.d:Nat)) st:=λq h=>q S ws st h (CI _) ⋯ K rfl Kp.refl;refine i8 T.kbp rfl [AA p.d,AA (.ref ca),AA (.ref ka),AA (.ref sh)] rfl ?_;cases p<;>simp only[Pg.d]
 all_goals
  ∎;refine⟨L,?_⟩;simp only[T.tbw];refine⟨_,rfl,?_⟩
 case name m=>
  cases ks with
  |cons _ _=>cases f
  |nil=>
   refine⟨_,rfl,by rw[T.k0];rfl,?_⟩;refine i8 T.k0 rfl [AA (.tup [.str "name",.int m]),AA (.ref ca),AA (.ref ka),AA (.ref sh),AE] rfl ?_;unfold ae0;have f:Γ[m]?=AA k:=f;have O:=(AT.mp f).1;obtain⟨e,J,I⟩:=x.at' m k f;have R:=x.len;(iterate 2 ∎);rw[v6 (.inl o)];rfl';rw[if_neg ⋯,if_neg (by simp only[AV];lia)];∎;refine⟨sh,"Shelf",_,rfl,K.A.ins,rfl,by rw[T.tku];rfl,?_⟩;rw[v6 (.inl o)];rfl';rw[l6 (.inl o)];have M:(((C.map D.int).length:Nat):Int)-1-(m:Int)=((C.length-1-m:Nat):Int):=by rw[AV];lia
   rw[M];refine⟨.int e,by rw[C8,Ak];rw[FI ⋯]at J;rw[J];rfl,?_⟩;exact bp4 T.toPKd ⋯ K I ⋯ λS' ws' st' h1 h2 h3 h4 h5 h6=>c0 (c0 (q S' ws' st' h1 h2 ⋯ h4 h5 h6))
 case star=>
  cases ks with
  |cons _ _=>cases f
  |nil=>
   cases f;refine⟨_,rfl,by rw[T.k1];rfl,?_⟩;refine i8 T.k1 rfl [AA (.tup [.str "star"]),AA (.ref ca),AA (.ref ka),AA (.ref sh)] rfl ?_;unfold ak7;∎;refine⟨sh,"Shelf",_,rfl,K.A.ins,rfl,by rw[T.numb];rfl,?_⟩;exact aq8 T.toPKd (w:="one") (inn:=[]) K.A K.D0 K.W ∎ ∎ ⋯ λS' st' h1 h2 h3 h4 h5 h6=>c0 (c0 (q S' ws st' h1 h2 ⋯ (K.up h4 h2 h5) rfl h6))
 case pair t u=>
  match ks,f with
  |[a,b],f=>
   cases f;refine⟨_,rfl,by rw[T.k2];rfl,?_⟩;refine i8 T.k2 rfl [AA (.tup [.str "pair",t.d,u.d]),AA (.ref ca),AA (.ref ka),AA (.ref sh)] rfl ?_;unfold ak5;∎;refine⟨sh,"Shelf",_,rfl,K.A.ins,rfl,by rw[T.blt];rfl,?_⟩;rw[l6 (.inl l)];refine⟨_,rfl,?_⟩;rw[l6 (.inl l)];refine⟨_,rfl,?_⟩;exact Y1 T.toPKd (w:="both") K.A K.D0 K.W (j _ ∎) (j _ ∎) ⋯ λS' st' h1 h2 h3 h4 h5 h6=>c0 (c0 (q S' ws st' h1 h2 ⋯ (K.up h4 h2 h5) rfl h6))
 case first t=>
  match ks,f with
  |[.both a b],f=>
   cases f;refine⟨_,rfl,by rw[T.k3];rfl,?_⟩;refine i8 T.k3 rfl [AA (.tup [.str "first",t.d]),AA (.ref ca),AA (.ref ka),AA (.ref sh)] rfl ?_;unfold ad5;∎;refine⟨by rw[T.hvs];rfl,?_⟩;rw[l6 (.inl l)];refine⟨_,rfl,Y2 T (w:="both") (k:=.both k b) rfl K (j _ ∎) λh1 h2=>?_⟩;rfl';exact c0 (c0 (g q h1))
 case second t=>
  match ks,f with
  |[.both a b],f=>
   cases f;refine⟨_,rfl,by rw[T.k4];rfl,?_⟩;refine i8 T.k4 rfl [AA (.tup [.str "second",t.d]),AA (.ref ca),AA (.ref ka),AA (.ref sh)] rfl ?_;unfold ad3;∎;refine⟨by rw[T.hvs];rfl,?_⟩;rw[l6 (.inl l)];refine⟨_,rfl,Y2 T (w:="both") (k:=.both a k) rfl K (j _ ∎) λh1 h2=>?_⟩;rfl';exact c0 (c0 (g q h2))
 case case t u v=>
  match ks,f with
  |[.eith a b,c,d],f=>
   have f:(if c=d then AA c else AE)=AA k:=f
   split at f
   ·rename_i s;cases f;subst s;refine⟨_,rfl,by rw[T.k7];rfl,?_⟩;refine i8 T.k7 rfl [AA (.tup [.str "case",t.d,u.d,v.d]),AA (.ref ca),AA (.ref ka),AA (.ref sh)] rfl ?_;unfold ad7;∎;rw[l6 (.inl l)];refine⟨_,rfl,?_⟩;rw[l6 (.inl l)];refine⟨_,rfl,?_⟩;rw[aa7];rfl';∎;rw[l6 (.inl l)];exact⟨_,rfl,c0 (c0 (g q (j _ ∎)))⟩
   ·cases f
 case lets t u=>
  match ks,f with
  |[a,c],f=>
   cases f;refine⟨_,rfl,by rw[T.k10];rfl,?_⟩;refine i8 T.k10 rfl [AA (.tup [.str "let",t.d,u.d]),AA (.ref ca),AA (.ref ka),AA (.ref sh)] rfl ?_;unfold al1;∎;rw[l6 (.inl l)];exact⟨_,rfl,c0 (c0 (g q (j _ ∎)))⟩
 case give t u=>
  match ks,f with
  |[.way a b,c],f=>
   have f:(if a=c then AA b else AE)=AA k:=f
   split at f
   ·rename_i s;cases f;subst s;refine⟨_,rfl,by rw[T.k9];rfl,?_⟩;refine i8 T.k9 rfl [AA (.tup [.str "give",t.d,u.d]),AA (.ref ca),AA (.ref ka),AA (.ref sh),AE] rfl ?_;unfold ad8;∎;refine⟨by rw[T.hvs];rfl,?_⟩;rw[l6 (.inl l)];refine⟨_,rfl,Y2 T (w:="way") (k:=.way a k) rfl K (j _ ∎) λh1 h2=>?_⟩;∎;rw[l6 (.inl l)];refine⟨_,rfl,?_⟩;rw[aa7];rfl';∎;exact c0 (c0 (g q h2))
   ·cases f
 case left b t=>
  match ks,f with
  |[a],f=>
   cases f;have i:b.nest<=6:=E;have H:=W7 i;refine⟨_,rfl,by rw[T.k5];rfl,?_⟩;refine i8 T.k5 rfl [AA (.tup [.str "left",b.d,t.d]),AA (.ref ca),AA (.ref ka),AA (.ref sh)] rfl ?_;unfold ak3;∎;refine⟨sh,"Shelf",_,rfl,K.A.ins,rfl,by rw[T.blt];rfl,?_⟩;rw[l6 (.inl l)];refine⟨_,rfl,sh,"Shelf",_,3,rfl,K.A.ins,rfl,by rw[T.lkd];rfl,T.dfl,?_⟩;refine W3 T.toPKd ⋯ ⋯ K ⋯ λS1 st1 a1 a2 a3 K1 a5=>?_;rfl';rw[<-U5 K1.A.wf (j a ∎) a2];exact Y1 T.toPKd (w:="either") K1.A K1.D0 K1.W ((j _ ∎).mono a2) a1 ⋯ λS' st' h1 h2 h3 h4 h5 h6=>c0 (c0 (q S' ws st' h1 (a2.trans h2) ⋯ (K1.up h4 h2 h5) rfl (a5.trans h6)))
 case right b t=>
  match ks,f with
  |[a],f=>
   cases f;have i:b.nest<=6:=E;have H:=W7 i;refine⟨_,rfl,by rw[T.k6];rfl,?_⟩;refine i8 T.k6 rfl [AA (.tup [.str "right",b.d,t.d]),AA (.ref ca),AA (.ref ka),AA (.ref sh)] rfl ?_;unfold ak2;∎;refine⟨sh,"Shelf",_,rfl,K.A.ins,rfl,by rw[T.blt];rfl,sh,"Shelf",_,3,rfl,K.A.ins,rfl,by rw[T.lkd];rfl,T.dfl,?_⟩;refine W3 T.toPKd ⋯ ⋯ K ⋯ λS1 st1 a1 a2 a3 K1 a5=>?_;rfl';rw[l6 (.inl (a5.at' l y))];refine⟨.int (nb S a.d:Nat),rfl,?_⟩;rw[<-U5 K1.A.wf (j a ∎) a2];exact Y1 T.toPKd (w:="either") K1.A K1.D0 K1.W a1 ((j _ ∎).mono a2) ⋯ λS' st' h1 h2 h3 h4 h5 h6=>c0 (c0 (q S' ws st' h1 (a2.trans h2) ⋯ (K1.up h4 h2 h5) rfl (a5.trans h6)))
 case way b t=>
  match ks,f with
  |[a],f=>
   cases f;have i:b.nest<=6:=E;have H:=W7 i;refine⟨_,rfl,by rw[T.k8];rfl,?_⟩;refine i8 T.k8 rfl [AA (.tup [.str "way",b.d,t.d]),AA (.ref ca),AA (.ref ka),AA (.ref sh)] rfl ?_;unfold al3;∎;refine⟨sh,"Shelf",_,rfl,K.A.ins,rfl,by rw[T.blt];rfl,sh,"Shelf",_,3,rfl,K.A.ins,rfl,by rw[T.lkd];rfl,T.dfl,?_⟩;refine W3 T.toPKd ⋯ ⋯ K ⋯ λS1 st1 a1 a2 a3 K1 a5=>?_;rfl';rw[l6 (.inl (a5.at' l y))];refine⟨.int (nb S a.d:Nat),rfl,?_⟩;rw[<-U5 K1.A.wf (j a ∎) a2];exact Y1 T.toPKd (w:="way") K1.A K1.D0 K1.W a1 ((j _ ∎).mono a2) ⋯ λS' st' h1 h2 h3 h4 h5 h6=>c0 (c0 (q S' ws st' h1 (a2.trans h2) ⋯ (K1.up h4 h2 h5) rfl (a5.trans h6)))
 case never b t=>
  match ks,f with
  |[.non],f=>
   cases f;have i:k.nest<=6:=E;have H:=W7 i;refine⟨_,rfl,by rw[T.k11];rfl,?_⟩;refine i8 T.k11 rfl [AA (.tup [.str "never",k.d,t.d]),AA (.ref ca),AA (.ref ka),AA (.ref sh)] rfl ?_;∎;refine⟨sh,"Shelf",_,rfl,K.A.ins,rfl,by rw[T.word];rfl,?_⟩;rw[l6 (.inl l)];refine⟨.int (nb S (D.tup [.str "none"]):Nat),rfl,af8 T.toPSh K.A (d:=.str "none") (r:=[]) (j .non ∎) ?_⟩;rfl';∎;refine⟨sh,"Shelf",_,3,rfl,K.A.ins,rfl,by rw[T.lkd];rfl,T.dfl,?_⟩;exact W3 T.toPKd ⋯ ⋯ K ⋯ λS' st' h1 h2 h3 h4 h5=>c0 (c0 (q S' ws st' h1 h2 ⋯ h4 rfl h5))
end
def bi9{f}(h:sem P G n f ds st Q):(y6 P G (n+1)).mf f ds st Q:=h
section
variable (T0:PM P G) {T:Type} {enc:T->D} {subs:T->List T} {size:T->Nat} {Do:T->Prop}
include T0
def cd1{L}hsz(r:∀t,Do t->∀c∈subs t,Do c){F}hF(s:Cok P M)t(m:size t<=2000)hgt(u:∀a∈L,∃o,st a=AA o){Y:AI->List T->List D->Sto->Prop}hYL
  (l:∀dn f,st dn=AE->Kp [] st f->Y dn [] [] f) hYk
  (p:∀c f Q,Do c->Kp [] st f->(∀d g,ag3 f g d ((subs c).map enc)->Kp [] f g->Q d g)->O1 P G n F [enc c] f Q)
  hm
  (q:∀dn d f,st dn=AE->Y dn [t] [d] f->Kp L st f->Q d f):=
 bd5 T0 (λa h0 _ K b o nb e=>K b o (by grind) (a b o nb e)) Kp.refl (λK a h=>(u a h).elim λo e=>⟨o,K a o ∎ e⟩) hsz r hF s t m hgt hYL (λdn f h j _=>l dn f h j) hYk (λc f Q gc j K k=>p c f Q gc j λd g h K2=>k d g h (j.trans K2) (K2.more ∎)) hm q
end
abbrev ndF(p:Pg)(la:AI)(x h w:Int)(kd:D):List (Str×D):=[(("program":Str),p.d),(("inside":Str),.ref la),(("number":Str),.int x),(("holders":Str),.int h),(("ways":Str),.int w),(("used":Str),.non),(("kind":Str),kd)]
abbrev ndO(p:Pg)(la:AI)(x h w:Int)(kd:D):Ob:=.ins "Node" (ndF p la x h w kd)
abbrev E2(d:D):Prop:=d=.non\/∃j:Int,d=.int j
inductive Nd(st0:Sto)(X:List AI)(st:Sto):Int->Pg->AI->List AI->Prop where
 |mk {h:Int} {p:Pg} {a la:AI} {x w:Int} {kd:D} {as:List AI} {fs:List (List AI)}:st a=AA (ndO p la x h w kd)->E2 kd->st la=AA (.lst (as.map D.ref))->la∉X->st0 la=AE->st0 a=AE->as.length=p.kids.length->fs.length=p.kids.length->(∀(i:Nat)c b f,p.kids[i]?=AA c->as[i]?=AA b->fs[i]?=AA f->Nd st0 X st 1 c b f)->Nd st0 X st h p a (a::fs.flatten)
section
variable {st0:Sto} 
def Nd.stay(n:Nd st0 X st h p a f)(hi:∀b∈f,∀o,st b=AA o->st' b=AA o)(j:KpN X st st'):Nd st0 X st' h p a f:=by
 induction n with
 |@mk h p a e x w kd v u t s r d q m l k _ g=>
  exact .mk (hi a ∎ _ t) s (j e _ d (λ_ _ z=>by cases z) r) d q m l k λi c b f e1 e2 e3=>g i c b f e1 e2 e3 λb' hb=>hi b' (Am _ (CJ.mpr ⟨f,Az e3,hb⟩))
theorem Nd.ins(n:Nd st0 X st h p a f):∀b∈f,∃k,st b=AA (.ins "Node" k):=by
 induction n with
 |@mk h p a m x w kd l j g y v u t s r q o d=>
  intro b c
  rcases AR.mp c with rfl|c
  ·exact⟨_,g⟩
  ·obtain⟨f,e,c⟩:=CJ.mp c;obtain⟨i,hi,rfl⟩:=IY.mp e;exact d i p.kids[i] l[i] j[i] (AO ⋯) (AO ⋯) (AO hi) b c
def Nd.root(n:Nd st0 X st h p a f):∃b x w kd,st a=AA (ndO p b x h w kd)/\E2 kd/\a∈f/\st0 a=AE:=by
 cases n with
 |mk e d o m l c k j i=>exact⟨_,_,_,_,e,d,∎,c⟩
def Nd.upd(n:Nd st0 X st h p a f)(m:f.Nodup){x w kd}(j:st a=AA (ndO p la x h w kd))(s:E2 kd'):Nd st0 X (b0 st a (ndO p la x h' w' kd')) h' p a f:=by
 cases n with
 |@mk _ _ _ q C E r H G l F k B A y v u g=>
  rw[j]at l;simp only[ndO,ndF,Bj,Ob.ins.injEq,Ai,JV,D.ref.injEq,D.int.injEq,true_and,and_true]at l;obtain⟨rfl,rfl,rfl,rfl⟩:=l;have d:la≠a:=λz=>by rw[z,j]at k;cases k
  have t:KpN X st (b0 st a (ndO p la x h' w' kd')):=λb o _ ho e=>f6 e (λz=>by rw[z,j]at e;cases e;exact ho _ _ rfl);refine .mk f7 s (f6 k d) B A y v u λi c b f e1 e2 e3=>(g i c b f e1 e2 e3).stay (λb' hb o ho=>f6 ho λz=>?_) t;subst z;exact(BR.mp m).1 (CJ.mpr ⟨f,Az e3,hb⟩)
end
structure PNo(P:i6)(G:Gs):Prop extends PKo P G where
 nin:P (c9 "Node" "__init__")=AA ak0
 ncl:G.cls "Node"=[("program":Str),("inside":Str),("number":Str),("holders":Str),("ways":Str),("used":Str),("kind":Str)]
 nod:P "noded"=AA aq2
 fol:P "folded"=AA P2
 kon:P "kind_of_node"=AA ak8
 ko:P "kind_of"=AA an2
 shn:P "shelved_names"=AA aj9
 shk:P "shelved_kind"=AA ak9
section
variable (T:PNo P G) 
include T
def ch0{a:AI}(q:Q .non (b0 st a (ndO p la x 0 0 .non))):sem P G (n+1) (c9 "Node" "__init__") [.ref a,p.d,.ref la,.int x] (b0 st a (.ins "Node" [])) Q:=by
 refine i8 T.nin rfl [AA (.ref a),AA p.d,AA (.ref la),AA (.int x)] rfl ?_;have b:∀f∈([("program":Str),("inside":Str),("number":Str),("holders":Str),("ways":Str),("used":Str),("kind":Str)]:List Str),f∈G.cls "Node":=λf hf=>by rw[T.ncl];exact hf
 ∎;refine⟨a,"Node",_,rfl,f7,b _ ∎,∅,?_⟩;rw[R8];∎;refine⟨a,"Node",_,rfl,f7,b _ ∎,by simp[l7],?_⟩;rw[R8];∎;refine⟨a,"Node",_,rfl,f7,b _ ∎,by simp[l7,u6],?_⟩;rw[R8];∎;refine⟨a,"Node",_,rfl,f7,b _ ∎,by simp[l7,u6],?_⟩;rw[R8];∎;refine⟨a,"Node",_,rfl,f7,b _ ∎,by simp[l7,u6],?_⟩;rw[R8];∎;refine⟨a,"Node",_,rfl,f7,b _ ∎,by simp[l7,u6],?_⟩;rw[R8];∎;refine⟨a,"Node",_,rfl,f7,b _ ∎,by simp[l7,u6],?_⟩;rw[R8];refine ba1 ?_;have e:l7 "kind" .non (l7 "used" .non (l7 "ways" (.int 0) (l7 "holders" (.int 0) (l7 "number" (.int x) (l7 "inside" (.ref la) (l7 "program" p.d []))))))=ndF p la x 0 0 .non:=by simp[l7,u6,ndF]
 rw[e];exact q
end
@[reducible]noncomputable def Tre:=Int×Pg×AI×List AI
structure FO(st0:Sto)(X:List AI)(l:List Tre)(st:Sto):Prop where
 nd:∀e∈l,Nd st0 X st e.1 e.2.1 e.2.2.1 e.2.2.2
 dj:(l.map (·.2.2.2)).flatten.Nodup
section
variable {st0:Sto} {l l1 l2:List Tre}
theorem FO.stay(h:FO st0 X l st)(hi:∀b∈(l.map (·.2.2.2)).flatten,∀o,st b=AA o->st' b=AA o)(a:KpN X st st'):FO st0 X l st':=
 ⟨λe he=>(h.nd e he).stay (λb hb=>hi b (CJ.mpr ⟨_,DV.mpr ⟨e,he,rfl⟩,hb⟩)) a,h.dj⟩
theorem FO.upd{w:Int}{b g:AI}(F:FO st0 X (l1++(h,c,b,f)::l2) st)(j:st b=AA (ndO c g x h w kd))(p:E2 kd'):FO st0 X (l1++(h',c,b,f)::l2) (b0 st b (ndO c g x h' w' kd')):=by
 have n:=F.nd (h,c,b,f) ∎;obtain⟨_,_,_,_,_,_,d,_⟩:=n.root;have i:=F.dj;simp only[Af,Ag,Dp,List.flatten_cons]at i;have m:=Fj.mp i;have l:=Fj.mp m.2.1;have k:KpN X st (b0 st b (ndO c g x h' w' kd')):=λb' o _ ho e=>f6 e (λz=>by rw[z,j]at e;cases e;exact ho _ _ rfl);refine⟨λe he=>?_,by simpa using i⟩
 rcases Bf.mp he with a|a
 ·refine(F.nd e (by simp[a])).stay (λb' hb' o ho=>f6 ho (λz=>?_)) k;exact m.2.2 b' (CJ.mpr ⟨_,DV.mpr ⟨e,a,rfl⟩,hb'⟩) b (EM _ d) z
 ·rcases AR.mp a with rfl|a
  ·exact n.upd l.1 j p
  ·refine(F.nd e (by simp[a])).stay (λb' hb' o ho=>f6 ho (λz=>?_)) k;exact l.2.2 b d b' (CJ.mpr ⟨_,DV.mpr ⟨e,a,rfl⟩,hb'⟩) z.symm
def Nd.monoX{Y}(n:Nd st0 X st h p a f)(c:∀y∈Y,y∈X):Nd st0 Y st h p a f:=by
 induction n with
 |mk m l k j i g e d _ b=>exact .mk m l k (λz=>j (c _ z)) i g e d b
end
def b04{w}:l7 "holders" (.int h') (ndF p la x h w kd)=ndF p la x h' w kd:=rfl
def a70{w}:l7 "ways" (.int w') (ndF p la x h w kd)=ndF p la x h w' kd:=rfl
def by0{w}:l7 "kind" kd' (ndF p la x h w kd)=ndF p la x h w kd':=rfl
section
variable (T:PNo P G) 
include T
def bx3{s:AI}(hn:5<=n)(hp:p.parts<=2000)(hna:st s=AA (.lst []))(hX:∀x∈X,∃o,st x=AA o)
  (q:∀a f j,Nd st X j 0 p a f->Kp [s] st j->Q (.ref a) j):sem P G n "noded" [p.d,.ref s] st Q:=by
 obtain⟨n,rfl⟩:∃m,n=m+5:=⟨n-5,⋯⟩;have hc:∀f∈([("program":Str),("inside":Str),("number":Str),("holders":Str),("ways":Str),("used":Str),("kind":Str)]:List Str),f∈G.cls "Node":=λf N=>by rw[T.ncl];exact N
 refine i8 T.nod rfl [AA p.d,AA (.ref s),AE,AE,AE] rfl ?_;(iterate 2 ∎);refine⟨by rw[T.mop];rfl,by rw[T.inner];rfl,?_⟩;refine cd1 T.toPM (n:=n+2) (T:=Pg) (enc:=Pg.d) (subs:=Pg.kids) (size:=Pg.parts) (Do:=λ_=>True) (L:=[s]) Pg.parts_kids (λ_ _ _ _=>trivial) (F:=.fn "inner") (show(P _).isSome=AC by rw[T.inner];rfl) (show Cok P (.clo _ _ _ _) from trivial) p hp trivial (by simp;exact⟨_,hna⟩)
  (Y:=λdn S ds j=>∃(l:List Tre)(B:List D),FO st (dn::s::X) l j/\l.map (·.2.1)=S/\ds=l.map (λe=>D.ref e.2.2.1)/\(∀e∈l,e.1=0)/\dn∉(l.map (·.2.2.2)).flatten/\j s=AA (.lst B)/\B.length=(S.map Pg.parts).sum) ?_ ?_ ?_ ?_ ?_ ?_
 ·rintro dn S ds st1 ⟨l,B,_,_,_,_,_,h,_⟩ a ha;simp at ha;subst ha;exact⟨_,h⟩
 ·intro dn j hdn K;exact⟨[],[],⟨∎,∎⟩,rfl,rfl,∎,∎,K.at' hna ∎,∎⟩
 ·rintro dn S ds st1 st2 hdn ⟨l,B,F,e1,e2,e3,e4,e5,e6⟩ K;refine⟨l,B,F.stay (λb t o ho=>K.at' ho (by simp;exact λz=>e4 (z▸t))) (λb o t _ ho=>K.at' ho (by simp at t ⊢;exact t.1)),e1,e2,e3,e4,K.at' e5 (by simp;exact λz=>by rw[z,hdn]at hna;cases hna),e6⟩
 ·intro c j Q _ K k;refine bw9 T.toPIn c λa ha=>k _ _ (.inr ⟨a,rfl,ha,f7⟩) (Kp.refl.new ha)
 ·rintro c dn la j Q S ds xs _ K hdn hlaL hne hl0 hla hlx hlS ⟨l,B,F,e1,e2,e3,e4,e5,e6⟩ hd hsum k;obtain⟨E,M,rfl,m1,m2⟩:∃E M:List Tre,l=E++M/\E.map (·.2.1)=S/\M.map (·.2.1)=c.kids:=by
   refine⟨l.take S.length,l.drop S.length,(FR _ _).symm,?_,?_⟩
   ·rw[KQ,e1,Je];rfl
   ·rw[KR,e1,List.drop_left'];rfl
  rw[Af]at e2;have hl1:E.length=S.length:=by rw[<-m1,AV]
  obtain⟨x1,x2⟩:=List.append_inj e2 (by rw[hlS,AV,hl1]);subst x1 x2;have hpc:=Pg.parts_kids c;rw[Af,Dx]at e6;refine aq7 rfl [AA c.d,AA (.ref la),AA (.ref s),AE,AE] rfl ?_;∎;refine⟨by show(AC&&_)=AC;rw[T.nin];rfl,?_⟩;rw[v6 (.inl e5)];intro r C;refine bi9 (n:=n+1) ?_;refine ch0 T ?_;have H:s≠r:=l5 e5 C;have W:st r=AE:=by
   cases z:st r with
   |none=>rfl
   |some u=>
    by_cases hz:r=s
    ·exact absurd hz.symm H
    ·rw[K.at' z (by simpa using hz)]at C;cases C
  have fr:∀b∈((E++M).map (·.2.2.2)).flatten,b≠r:=λb t z=>by
   obtain⟨f,N,t⟩:=CJ.mp t;obtain⟨e,v,rfl⟩:=DV.mp N;obtain⟨fl,h⟩:=(F.nd e v).ins b t;rw[z,C]at h;cases h
  have fna:∀b∈((E++M).map (·.2.2.2)).flatten,b≠s:=λb t z=>by
   obtain⟨f,N,t⟩:=CJ.mp t;obtain⟨e,v,rfl⟩:=DV.mp N;obtain⟨fl,h⟩:=(F.nd e v).ins b t;rw[z,e5]at h;cases h
  ∎;have e5':b0 j r (ndO c la B.length 0 0 .non) s=AA (.lst B):=j8 e5 C;rw[B0 (.inl e5'),D6 e5'];refine⟨trivial,D5 ⋯,?_⟩;have N1:KpN [s] j (b0 (b0 j r (ndO c la B.length 0 0 .non)) s (.lst (B++[.ref r]))):=λb o t _ ho=>f6 (j8 ho C) (by simpa using t);have K1:Kp [s] st (b0 (b0 j r (ndO c la B.length 0 0 .non)) s (.lst (B++[.ref r]))):=(K.new C).put ∎;have F1:FO st (dn::s::X) (E++M) (b0 (b0 j r (ndO c la B.length 0 0 .non)) s (.lst (B++[.ref r]))):=F.stay (λb t o ho=>f6 (j8 ho C) (fna b t)) (λb o t _ ho=>f6 (j8 ho C) (by simp at t;exact t.2.1));have d1:(b0 (b0 j r (ndO c la B.length 0 0 .non)) s (.lst (B++[.ref r]))) r=AA (ndO c la B.length 0 0 .non):=f6 f7 H.symm;have na1:(b0 (b0 j r (ndO c la B.length 0 0 .non)) s (.lst (B++[.ref r]))) s=AA (.lst (B++[.ref r])):=f7;have la1:=N1 la _ hlaL (λ_ _ z=>by cases z) hla;revert N1 K1 F1 d1 na1 la1;generalize b0 (b0 j r (ndO c la B.length 0 0 .non)) s (.lst (B++[.ref r]))=s1;intro N1 K1 F1 d1 na1 la1;have e3':∀e∈E,e.1=0:=λe v=>e3 e (by simp[v]);have e32:∀e∈M,e.1=0:=λe v=>e3 e (by simp[v]);∎;refine⟨_,.inl la1,?_⟩;refine L4 (λll env s2=>∃(g A:List Tre)(w:Int)(x4:Option D),ll=A.map (λe=>D.ref e.2.2.1)/\(g++A).map (·.2)=M.map (·.2)/\(∀e∈g,e.1=1)/\(∀e∈A,e.1=0)/\env=[AA c.d,AA (.ref la),AA (.ref s),AA (.ref r),x4]/\FO st (dn::s::X) (E++(g++A)) s2/\s2 r=AA (ndO c la B.length 0 w .non)/\KpN [s] j s2/\Kp [s] st s2/\s2 s=AA (.lst (B++[.ref r]))) ?_ ?_ _ _ _ ⟨[],M,0,AE,rfl,rfl,∎,e32,rfl,F1,d1,N1,K1,na1⟩
  ·rintro env s2 ⟨g,A,w,x4,el,em,hp1,_,rfl,F2,d2,N2,K2,na2⟩;have es:A=[]:=by simpa using el.symm
   subst es;rw[BM]at em F2;refine⟨.inl (N2 la _ hlaL (λ_ _ z=>by cases z) hla),?_⟩;have fin:∀(w:Int)(U:Sto),FO st (dn::s::X) (E++g) U->U r=AA (ndO c la B.length 0 w .non)->KpN [s] j U->Kp [s] st U->U s=AA (.lst (B++[.ref r]))->Q (.ref r) U:=by
    intro w U F3 d3 N3 K3 V;have hk:g.map (·.2.1)=c.kids:=by
     have:=congrArg (Gb (λz:Pg×AI×List AI=>z.1)) em;rw[Cf,Cf]at this;rw[<-m2];exact this
    have N:g.map (·.2.2.2)=M.map (·.2.2.2):=by
     have:=congrArg (Gb (λz:Pg×AI×List AI=>z.2.2)) em;rw[Cf,Cf]at this;exact this
    have hr:g.map (λe=>D.ref e.2.2.1)=M.map (λe=>D.ref e.2.2.1):=by
     have:=congrArg (Gb (λz:Pg×AI×List AI=>D.ref z.2.1)) em;rw[Cf,Cf]at this;exact this
    have hla3:U la=AA (.lst ((g.map (·.2.2.1)).map D.ref)):=by
     rw[N3 la _ hlaL (λ_ _ z=>by cases z) hla,Cf,<-hr];rfl
    have hkl:g.length=c.kids.length:=by rw[<-hk,AV]
    have hf2:((E++g).map (·.2.2.2)).flatten=((E++M).map (·.2.2.2)).flatten:=by rw[Af,Af,N]
    have hfl:((E++[((0:Int),c,r,r::(g.map (·.2.2.2)).flatten)]).map (·.2.2.2)).flatten=(E.map (·.2.2.2)).flatten++r::(g.map (·.2.2.2)).flatten:=by simp
    refine k (.ref r) U ⟨E++[(0,c,r,r::(g.map (·.2.2.2)).flatten)],B++[.ref r],⟨λe v=>?_,?_⟩,by rw[Af,m1];rfl,by rw[Af];rfl,λe v=>?_,?_,V,by simp only[Ap,AY,BW,Af,Ag,EB,Dx,Dn,ID];lia⟩ N3 K3
    ·rcases Bf.mp v with v|v
     ·exact F3.nd e (by simp[v])
     ·simp only[Bx]at v;subst v;refine .mk d3 (.inl rfl) hla3 ?_ hl0 W (by rw[AV,hkl]) (by rw[AV,hkl]) λi c' b' f' x1 x2 x3=>?_
      ·simp only[AR,not_or];refine⟨hne,by simpa using hlaL,λz=>?_⟩;obtain⟨o,h⟩:=hX la z;rw[hl0]at h;cases h
      ·rw[Ak]at x2 x3;rw[<-hk,Ak]at x1;cases hi:g[i]? with
       |none=>rw[hi]at x1;cases x1
       |some e=>
        rw[hi]at x1 x2 x3;cases x1;cases x2;cases x3;have hm:=Az hi;have:=F3.nd e (by simp[hm]);rw[hp1 e hm]at this;exact this
    ·rw[hfl];have dj:=F3.dj;rw[Af,Dp]at dj;obtain⟨g1,g2,g3⟩:=Fj.mp dj;have gn:∀x∈((E++g).map (·.2.2.2)).flatten,x≠r:=λx hx=>fr x (by rw[<-hf2];exact hx);rw[Fj];refine⟨g1,BR.mpr ⟨λz=>gn r (by rw[Af,Dp];exact BK _ z) rfl,g2⟩,λx hx y hy=>?_⟩
     rcases AR.mp hy with rfl|hy
     ·exact gn x (by rw[Af,Dp];exact EM _ hx)
     ·exact g3 x hx y hy
    ·rcases Bf.mp v with v|v
     ·exact e3' e v
     ·simp only[Bx]at v;subst v;rfl
    ·rw[hfl];intro z;have hdnd:dn≠r:=l5 hd C
     rcases Bf.mp z with z|z
     ·exact e4 (by rw[Af,Dp];exact EM _ z)
     ·rcases AR.mp z with z|z
      ·exact hdnd z
      ·exact e4 (by rw[Af,Dp,<-N];exact BK _ z)
   obtain⟨w0,r0,hcd⟩:∃(w0:String)(r0:List D),c.d=.tup (.str w0::r0):=by cases c<;>exact⟨_,_,rfl⟩
   rw[hcd];∎
   by_cases hw:w0="way"
   ·simp only[hw,if_true];∎;refine⟨r,"Node",_,.int w,rfl,d2,hc _ ∎,rfl,?_⟩;rfl';refine⟨r,"Node",_,rfl,d2,hc _ ∎,by simp[ndF],?_⟩;rw[a70];∎;have hx:∀b∈((E++g).map (·.2.2.2)).flatten,b≠r:=λb t=>fr b (by
     have N:g.map (·.2.2.2)=M.map (·.2.2.2):=by
      have:=congrArg (Gb (λz:Pg×AI×List AI=>z.2.2)) em;rw[Cf,Cf]at this;exact this
     rw[Af,<-N,<-Af];exact t)
    refine c0 (fin (w+1) _ (F2.stay (λb t o ho=>f6 ho (hx b t)) λb o _ ho h=>f6 h (λz=>by rw[z,d2]at h;cases h;exact ho _ _ rfl)) f7 (λb o t ho h=>f6 (N2 b o t ho h) (λz=>by rw[z,C]at h;cases h)) (λb o t h=>f6 (K2 b o t h) (λz=>by rw[z,W]at h;cases h)) (f6 na2 H))
   ·simp only[hw,if_false];∎;exact c0 (fin w s2 F2 d2 N2 K2 na2)
  ·rintro d0 dl env s2 ih ⟨g,A,w,x4,el,em,hp1,hs0,rfl,F2,d2,N2,K2,na2⟩;refine⟨.inl (N2 la _ hlaL (λ_ _ z=>by cases z) hla),?_⟩;cases A with
   |nil=>simp at el
   |cons e A=>
    simp only[Ag,Ai]at el;obtain⟨rfl,rfl⟩:=el;obtain⟨h0,J,b,f⟩:=e;have hh:h0=0:=hs0 (h0,J,b,f) ∎;subst hh;have ne:=F2.nd (0,J,b,f) ∎;obtain⟨lb,xb,R,Z,t,hkb,hbf,_⟩:=ne.root;have hbn:b≠r:=fr b (by
     have N:(g++(0,J,b,f)::A).map (·.2.2.2)=M.map (·.2.2.2):=by
      have:=congrArg (Gb (λz:Pg×AI×List AI=>z.2.2)) em;rw[Cf,Cf]at this;exact this
     rw[Af,<-N,<-Af];exact CJ.mpr ⟨f,DV.mpr ⟨(0,J,b,f),∎,rfl⟩,hbf⟩)
    have hbna:b≠s:=λz=>by rw[z,na2]at t;cases t
    have hb0:st b=AE:=by
     obtain⟨_,_,_,_,_,_,_,h⟩:=ne.root;exact h
    have hbst:∀o,(∀c fs,o≠.ins c fs)->j b≠AA o:=λo ho h=>by
     have:=N2 b o (by simpa using hbna) ho h;rw[t]at this;cases this;exact ho _ _ rfl
    rfl';∎;refine⟨b,"Node",_,.int 0,rfl,t,hc _ ∎,rfl,?_⟩;rfl';refine⟨b,"Node",_,rfl,t,hc _ ∎,by simp[ndF],?_⟩;rw[b04];have F3:FO st (dn::s::X) ((E++g)++(1,J,b,f)::A) (b0 s2 b (ndO J lb xb 1 R Z)):=FO.upd (h:=0) (w:=R) (kd:=Z) (by rw[Dl];exact F2) t hkb;have d3:(b0 s2 b (ndO J lb xb 1 R Z)) r=AA (ndO c la B.length 0 w .non):=f6 d2 hbn.symm;have b3:(b0 s2 b (ndO J lb xb 1 R Z)) b=AA (ndO J lb xb 1 R Z):=f7;have N3:KpN [s] j (b0 s2 b (ndO J lb xb 1 R Z)):=λb' o hb' ho h=>f6 (N2 b' o hb' ho h) (λz=>hbst o ho (z▸h));have K3:Kp [s] st (b0 s2 b (ndO J lb xb 1 R Z)):=λb' o hb' h=>f6 (K2 b' o hb' h) (λz=>by rw[z,hb0]at h;cases h);have V:=f6 (u:=ndO J lb xb 1 R Z) na2 hbna.symm;have e01:((0:Int)+1)=1:=by decide
    rw[e01];show i5 _ _ _ _ (b0 s2 b (ndO J lb xb 1 R Z));revert F3 d3 b3 N3 K3 V;generalize b0 s2 b (ndO J lb xb 1 R Z)=U;intro F3 d3 b3 N3 K3 V;∎;refine⟨r,"Node",_,.int w,rfl,d3,hc _ ∎,rfl,?_⟩;rfl';refine⟨b,"Node",_,.int R,rfl,b3,hc _ ∎,rfl,?_⟩;rfl';refine⟨r,"Node",_,rfl,d3,hc _ ∎,by simp[ndF],?_⟩;rw[a70];rfl';refine ih _ _ ⟨g++[(1,J,b,f)],A,_,_,rfl,by rw[<-em];simp,λe v=>?_,λe v=>hs0 e (by simp[v]),rfl,?_,f7,λb' o hb' ho h=>f6 (N3 b' o hb' ho h) (λz=>by rw[z,C]at h;cases h),λb' o hb' h=>f6 (K3 b' o hb' h) (λz=>by rw[z,W]at h;cases h),f6 V H⟩
    ·rcases Bf.mp v with v|v
     ·exact hp1 e v
     ·simp only[Bx]at v;subst v;rfl
    ·have F4:FO st (dn::s::X) (E++((g++[(1,J,b,f)])++A)) U:=by simpa using F3
     refine F4.stay (λb' hb' o ho=>f6 ho (fr b' ?_)) λb' o _ ho h=>f6 h (λz=>by rw[z,d3]at h;cases h;exact ho _ _ rfl);have N:((g++[((1:Int),J,b,f)])++A).map (·.2.2.2)=M.map (·.2.2.2):=by
      have:=congrArg (Gb (λz:Pg×AI×List AI=>z.2.2)) em;rw[Cf,Cf]at this;refine Kl ?_ this;simp[Function.comp_def]
     rw[Af,<-N,<-Af];exact hb'
 ·rintro dn d j hdn ⟨l,B,F,e1,e2,e3,e4,e5,e6⟩ K
  match l,e1 with
  |[e],e1=>
   have e1:e.2.1=p:=by simpa using e1
   have n:=F.nd e ∎;rw[e3 e ∎,e1]at n;have:d=.ref e.2.2.1:=by simpa using e2
   subst this;exact c0 (q _ _ j (n.monoX (by intro y hy;simp[hy])) K)
end
abbrev Pg.okc:Pg->List Kd->Prop
 |.case _ _ _,ks=>∃a b r,ks=.eith a b::r
 |_,_=>True
abbrev Kd.wd:Kd->String
 |.non=>"none"|.one=>"one"|.eith _ _=>"either"|.both _ _=>"both"|.way _ _=>"way"
def Kd.d_wd(k:Kd):∃r,k.d=.tup (.str k.wd::r):=by cases k<;>exact⟨_,rfl⟩
def bh7{a}(h:a.d=b.d):a=b:=by
 have:=G4 a b;rw[h,G4]at this;simpa using this.symm
section
variable (T:PKo P G) (hx:G.cls "!ix"≠[]) {S:List It3} 
include T hx
def az4{k:Kd}(e:w≠k.wd)(K:KA sh dn sa pa wa S ws st)(h:Has S k.d):A6 P G (n+2) "halves_of" [.str w,.int (nb S k.d:Nat),.ref sh] st Q:=by
 refine J7 T.hvs rfl [AA (.str w),AA (.int (nb S k.d:Nat)),AA (.ref sh)] rfl ?_;obtain⟨r,a⟩:=k.d_wd;rw[a]at h ⊢;∎;refine⟨sh,"Shelf",_,rfl,K.A.ins,rfl,by rw[T.word];rfl,.inr (af8 T.toPSh K.A h ?_)⟩;rw[ar9 (decide_eq_false (Ao e))];exact⟨_,rfl,rfl,hx⟩
def br5(l:4<=n)(K:KA sh dn sa pa wa S ws st)(b:p.more i=1)(hi:ks.length=i)(f:p.nw ks i=AE)(j:st ca=AA (.lst (t9 S ks)))(h:∀k∈ks,Has S k.d):A6 P G n "new_name" [p.d,.ref ca,.int i,.ref sh] st Q:=by
 obtain⟨n,rfl⟩:∃m,n=m+3:=⟨n-3,⋯⟩;refine J7 T.nnm rfl [AA p.d,AA (.ref ca),AA (.int i),AA (.ref sh)] rfl ?_;cases p<;>first|(cases f;done)|(cases b;done)|skip
 case lets t u=>
  simp only[Pg.more]at b
  split at b
  ·cases ks with
   |nil=>simp at hi;lia
   |cons a r=>cases f
  ·cases b
 case case t u v=>
  have g:i=1\/i=2:=by
   simp only[Pg.more]at b
   split at b
   ·assumption
   ·cases b
  cases ks with
  |nil=>simp at hi;lia
  |cons k0 r=>
   simp only[Pg.d];(iterate 3 ∎);refine⟨by rw[T.hvs];rfl,?_⟩;rw[l6 (.inl j)];refine⟨.int (nb S k0.d:Nat),by rw[ai1];rfl,.inl (az4 T hx ?_ K (h _ ∎))⟩;cases k0<;>first|(cases f;done)|(simp only[Kd.wd];decide)
def cr8{s:List Int}(H:8<=n)(K:KA sh dn sa pa wa S ws st)(g:ks.length=p.kids.length)(C:p.okc ks)(f:p.kk Γ ks=AE)(o:st ca=AA (.lst (t9 S ks)))(i:∀k∈ks,Has S k.d)(q:st ka=AA (.lst (s.map D.int)))(E:s.length=Γ.length):A6 P G n "kind_by_parts" [p.d,.ref ca,.ref ka,.ref sh] st Q:=by
 obtain⟨n,rfl⟩:∃m,n=m+5:=⟨n-5,⋯⟩;have B:(Zr P G (n+4)).G "BY_WORD"≠[]:=by show G.tab "BY_WORD"≠[];rw[T.tbw];exact λz=>by cases z
 refine J7 T.kbp rfl [AA p.d,AA (.ref ca),AA (.ref ka),AA (.ref sh)] rfl ?_;have j:∀{w:String}{k:Kd},w≠k.wd->Has S k.d->∀{Q:DK},orF (A6 P G (n+3)) (sem P G (n+3)) "halves_of" [.str w,.int (nb S k.d:Nat),.ref sh] st Q:=λe h=>.inl (az4 T hx e K h);cases p<;>simp only[Pg.d]
 all_goals
  ∎;refine⟨B,?_⟩;simp only[T.tbw];refine⟨_,rfl,?_⟩
 case name m=>
  match ks,g with
  |[],_=>
   have f:Γ[m]?=AE:=f;have I:=List.getElem?_eq_none_iff.mp f;refine⟨_,rfl,by rw[T.k0];rfl,.inl ?_⟩;refine J7 T.k0 rfl [AA (.tup [.str "name",.int m]),AA (.ref ca),AA (.ref ka),AA (.ref sh),AE] rfl ?_;unfold ae0;(iterate 2 ∎);rw[v6 (.inl q)];rfl';rw[if_neg ⋯,if_pos (by simp only[AV];lia)];exact⟨rfl,hx⟩
 case star=>match ks,g with|[],_=>cases f
 case pair t u=>match ks,g with|[a,b],_=>cases f
 case left b t=>match ks,g with|[a],_=>cases f
 case right b t=>match ks,g with|[a],_=>cases f
 case way b t=>match ks,g with|[a],_=>cases f
 case lets t u=>match ks,g with|[a,b],_=>cases f
 case first t=>
  match ks,g with
  |[a],_=>
   refine⟨_,rfl,by rw[T.k3];rfl,.inl ?_⟩;refine J7 T.k3 rfl [AA (.tup [.str "first",t.d]),AA (.ref ca),AA (.ref ka),AA (.ref sh)] rfl ?_;unfold ad5;∎;refine⟨by rw[T.hvs];rfl,?_⟩;rw[l6 (.inl o)];refine⟨_,rfl,j ?_ (i a ∎)⟩;cases a<;>first|(cases f;done)|(simp only[Kd.wd];decide)
 case second t=>
  match ks,g with
  |[a],_=>
   refine⟨_,rfl,by rw[T.k4];rfl,.inl ?_⟩;refine J7 T.k4 rfl [AA (.tup [.str "second",t.d]),AA (.ref ca),AA (.ref ka),AA (.ref sh)] rfl ?_;unfold ad3;∎;refine⟨by rw[T.hvs];rfl,?_⟩;rw[l6 (.inl o)];refine⟨_,rfl,j ?_ (i a ∎)⟩;cases a<;>first|(cases f;done)|(simp only[Kd.wd];decide)
 case case t u v=>
  match ks,g with
  |[x,c,d],_=>
   obtain⟨a,b,r,e⟩:=C;cases e;have f:(if c=d then AA c else AE)=AE:=f;have l:c≠d:=λz=>by rw[if_pos z]at f;cases f
   refine⟨_,rfl,by rw[T.k7];rfl,.inl ?_⟩;refine J7 T.k7 rfl [AA (.tup [.str "case",t.d,u.d,v.d]),AA (.ref ca),AA (.ref ka),AA (.ref sh)] rfl ?_;unfold ad7;∎;rw[l6 (.inl o)];refine⟨_,rfl,?_⟩;rw[l6 (.inl o)];refine⟨_,rfl,?_⟩;rw[aa7];rfl';rw[if_pos (show ¬(nb S c.d:Int)=(nb S d.d:Int) from λz=>l (bh7 (bf4 (i c ∎) (i d ∎) (Iy z))))];exact⟨rfl,hx⟩
 case give t u=>
  match ks,g with
  |[x,c],_=>
   refine⟨_,rfl,by rw[T.k9];rfl,.inl ?_⟩;refine J7 T.k9 rfl [AA (.tup [.str "give",t.d,u.d]),AA (.ref ca),AA (.ref ka),AA (.ref sh),AE] rfl ?_;unfold ad8;∎;refine⟨by rw[T.hvs];rfl,?_⟩;rw[l6 (.inl o)];refine⟨_,rfl,?_⟩;cases x<;>first|(exact j (by simp only[Kd.wd];decide) (i _ ∎))|skip
   rename_i a b _;refine .inr (Y2 T (w:="way") (k:=.way a b) rfl K (i _ ∎) λh1 h2=>?_);have f:(if a=c then AA b else AE)=AE:=f;have l:a≠c:=λz=>by rw[if_pos z]at f;cases f
   ∎;rw[l6 (.inl o)];refine⟨_,rfl,?_⟩;rw[aa7];rfl';rw[if_pos (show ¬(nb S a.d:Int)=(nb S c.d:Int) from λz=>l (bh7 (bf4 h1 (i c ∎) (Iy z))))];exact⟨rfl,hx⟩
 case never b t=>
  match ks,g with
  |[x],_=>
   refine⟨_,rfl,by rw[T.k11];rfl,.inl ?_⟩;refine J7 T.k11 rfl [AA (.tup [.str "never",b.d,t.d]),AA (.ref ca),AA (.ref ka),AA (.ref sh)] rfl ?_;∎;refine⟨sh,"Shelf",_,rfl,K.A.ins,rfl,by rw[T.word];rfl,?_⟩;rw[l6 (.inl o)];obtain⟨r,F⟩:=x.d_wd;have y:=i x ∎;refine⟨.int (nb S x.d:Nat),rfl,.inr ?_⟩;rw[F]at y ⊢;refine af8 T.toPSh K.A y ?_;rw[ar9 (decide_eq_false (by cases x<;>first|(cases f;done)|(simp only[Kd.wd];decide)))];exact⟨_,rfl,rfl,hx⟩
end
structure KpI(R L:List AI)(st st':Sto):Prop where
 n:KpN L st st'
 i:∀b c la x h w kd,st b=AA (ndO c la x h w kd)->E2 kd->∃kd',E2 kd'/\st' b=AA (ndO c la x h w kd')
 e:∀b,st' b=AE->st b=AE
 k:∀b o,b∉L->b∉R->st b=AA o->st' b=AA o
section
variable {M:List AI} {s1 s2 s3:Sto} {p:AI} {o:Ob} {es:List D}
def N0{q}(h:b0 st p o q=AE):st q=AE:=by
 by_cases z:q=p
 ·rw[z,f7]at h;cases h
 ·cases e:st q with
  |none=>rfl
  |some u=>rw[f6 e z]at h;cases h
def KpI.refl:KpI R L st st:=⟨λ_ _ _ _ h=>h,λ_ _ _ _ _ _ kd h k=>⟨kd,k,h⟩,λ_ h=>h,λ_ _ _ _ h=>h⟩
def KpI.trans(a:KpI R L s1 s2)(b:KpI R L s2 s3):KpI R L s1 s3:=⟨λx o n ho h=>b.n x o n ho (a.n x o n ho h),λx c la y h w kd e k=>by
 obtain⟨d,k1,f⟩:=a.i x c la y h w kd e k;exact b.i x c la y h w d f k1,λx h=>a.e x (b.e x h),λx o n m h=>b.k x o n m (a.k x o n m h)⟩
def KpI.more(a:KpI R L s1 s2)(s:∀d∈L,d∈M):KpI R M s1 s2:=⟨λx o n ho=>a.n x o (λz=>n (s x z)) ho,a.i,a.e,λx o n m=>a.k x o (λz=>n (s x z)) m⟩
def KpI.new(a:KpI R L st st')(h:st' p=AE):KpI R L st (b0 st' p o):=a.trans ⟨λx o n ho e=>j8 e h,λx c la y h' w kd e k=>⟨kd,k,j8 e h⟩,λ_=>N0,λ_ _ _ _ e=>j8 e h⟩
def KpI.put(a:KpI R L st st')(h:p∈L)(b:st' p=AA (.lst ds)):KpI R L st (b0 st' p o):=a.trans ⟨λx o n ho e=>f6 e λz=>n (z▸h),λx c la y h' w kd e k=>⟨kd,k,f6 e λz=>by rw[z,b]at e;cases e⟩,λ_=>N0,λx o n _ e=>f6 e λz=>n (z▸h)⟩
def KpI.drop(a:KpI R (p::L) st st')(h:st p=AE):KpI R L st st':=⟨λx o n ho e=>a.n x o (λz=>by rcases AR.mp z with z|z;exact l5 e h z;exact n z) ho e,a.i,a.e,λx o n m e=>a.k x o (λz=>by rcases AR.mp z with z|z;exact l5 e h z;exact n z) m e⟩
theorem KpI.lst(a:KpI R L st st')(h:st p=AA (.lst ds))(n:p∉L):st' p=AA (.lst ds):=a.n p _ n (λ_ _ z=>by cases z) h
def KA.noNode{b}{S}(K:KA sh dn sa pa wa S ws st){fl}(h:st b=AA (.ins "Node" fl)):b∉shL sh dn sa pa wa:=by
 intro z;simp only[AR,AW,or_false]at z
 rcases z with rfl|rfl|rfl|rfl|rfl
 ·have:=K.A.ins;rw[h]at this;simp[u6]at this
 ·have:=K.A.num;rw[h]at this;simp at this
 ·have:=K.A.sto;rw[h]at this;simp at this
 ·have:=K.A.par;rw[h]at this;simp at this
 ·have:=K.W;rw[h]at this;simp at this
def KpI.ofKp{S}(K:KA sh dn sa pa wa S ws st)(a:KA sh dn sa pa wa S' ws' st')(x:Kp (shL sh dn sa pa wa) st st'):KpI R (shL sh dn sa pa wa) st st':=⟨λb o n _=>x b o n,λb c la y h w kd e k=>⟨kd,k,x b _ (K.noNode e) e⟩,λb hb=>(by
 by_cases z:b∈shL sh dn sa pa wa
 ·simp only[AR,AW,or_false]at z
  rcases z with rfl|rfl|rfl|rfl|rfl
  ·have:=a.A.ins;rw[hb]at this;cases this
  ·have:=a.A.num;rw[hb]at this;cases this
  ·have:=a.A.sto;rw[hb]at this;cases this
  ·have:=a.A.par;rw[hb]at this;cases this
  ·have:=a.W;rw[hb]at this;cases this
 ·cases e:st b with
  |none=>rfl
  |some u=>rw[x b u z e]at hb;cases hb),λb o n _=>x b o n⟩
def Nd.kpi{st0}{p}(n:Nd st0 X st h p a f)(K:KpI R L st st')(j:∀y∈L,y∈X):Nd st0 X st' h p a f:=by
 induction n with
 |@mk h p a c x w kd v u s r q b o m l k _ g=>
  obtain⟨d,e,t⟩:=K.i a p c x h w kd s r;exact .mk t e (K.lst q λz=>b (j _ z)) b o m l k g
def Nd.addX{st0}{p}{x}(n:Nd st0 X st h p a f)(m:st x=AE):Nd st0 (x::X) st h p a f:=by
 induction n with
 |mk k j i o g e d c _ b=>exact .mk k j i λz=>by simp_all g e d c b
end
abbrev at4(bX:Bool)(P:i6)(G:Gs)(n:Nat):D->Spec
 |.fn f=>pF bX P G n f
 |.clo np N b cs=>pC bX P G n np N b cs
 |_=>λ_ _ _=>False
def a56{ta}{x}(h:Cok P x)(q:ta st λds st1=>at4 bX P G n x ds st1 Q):T9 (Zl bX P G n) ta st Q x:=by
 cases x<;>first|exact h.elim|exact⟨h,q⟩|exact q
abbrev av4(bX:Bool)(P:i6)(G:Gs)(n:Nat)(sh dn sa pa wa:AI)(nm:D):Prop:=∀(st:Sto)(S:List It3)(ws:List (Kd×Bool))(ca:AI)(p:Pg)(i:Nat)(ks:List Kd)(Q:DK),KA sh dn sa pa wa S ws st->p.told 6->p.more i=1->ks.length=i->(p.nw ks i=AE->bX=AC)->st ca=AA (.lst (t9 S ks))->(∀k∈ks,Has S k.d)->S.length+128<=900000->(∀a,p.nw ks i=AA a->StQ sh dn sa pa wa S ws st a Q)->at4 bX P G n nm [p.d,.ref ca,.int i] st Q
abbrev at6(bX:Bool)(P:i6)(G:Gs)(n:Nat)(sh dn sa pa wa:AI)(md:D):Prop:=∀(st:Sto)(S:List It3)(ws:List (Kd×Bool))(ca ka b la:AI)(p:Pg)(Γ:List Kd)(ks:List Kd)(kn:List Int)(x h w:Int)(kd:D)(Q:DK),KA sh dn sa pa wa S ws st->p.told 6->ks.length=p.kids.length->p.okc ks->(p.kk Γ ks=AE->bX=AC)->st ca=AA (.lst (t9 S ks))->(∀k∈ks,Has S k.d)->st ka=AA (.lst (kn.map D.int))->KnOk S ws Γ kn->ca∉shL sh dn sa pa wa->S.length+128<=900000->st b=AA (ndO p la x h w kd)->E2 kd->(∀k,p.kk Γ ks=AA k->∀S' ws' st' kd',Has S' k.d->S <+: S'->S'.length<=S.length+128->KA sh dn sa pa wa S' ws' st'->WUp ws ws'->Kp (b::shL sh dn sa pa wa) st st'->st' b=AA (ndO p la x h w kd')->E2 kd'->Q (.int (nb S' k.d:Nat)) st')->at4 bX P G n md [.ref b,.ref ca,.ref ka] st Q
structure FS(sh dn sa pa wa ka ba aa da:AI)(S:List It3)(ws:List (Kd×Bool))(kn:List Int)(B A:List D)(st:Sto):Prop where
 K:KA sh dn sa pa wa S ws st
 k:st ka=AA (.lst (kn.map D.int))
 b:st ba=AA (.lst B)
 a:st aa=AA (.lst A)
 d:st da=AA (.dtt [])
@[reducible]noncomputable def fL(sh dn sa pa wa ka ba aa:AI):List AI:=ka::ba::aa::shL sh dn sa pa wa
abbrev G8:Ss:=match P2.body with
 |.cons _ (.cons _ (.cons _ (.cons (.while _ b) _)))=>b
 |_=>.nil
def N6{α}{xs}{x:α}:atI (xs++[x]) (-1)=AA x:=by
 unfold atI ixN;rw[if_neg ∅,if_pos (by simp;lia)];have:(-1+((xs.length:Int)+1)).toNat=xs.length:=by lia
 simp[this]
def ap8(p:Pg)(i:Nat):p.more i=0\/p.more i=1:=by
 cases p<;>first|exact .inl rfl|(simp only[Pg.more];split<;>simp)
section
variable (T:PNo P G) {S:List It3} 
include T
def bt8(Y:Cok P nm)(N:av4 bX P G (n+1) sh dn sa pa wa nm)(dj:(ka::ba::aa::da::shL sh dn sa pa wa).Nodup){F:DEnds}{r:List Int}{B:List D}{w:Int}{as:List AI}{x7 x8 x9 I:Option D}{b:AI}
  (H:FS sh dn sa pa wa ka ba aa da S ws r (B++[.ref a]) (A++[.ref ca]) st) (hc:st ca=AA (.lst (t9 S ks))) (hh:∀k∈ks,Has S k.d) (U:st a=AA (ndO p la x h w kd)) (hkd:E2 kd) (h1:h<=1) (hl:st la=AA (.lst (as.map D.ref))) (hi:p.kids[ks.length]?=AA c) (hb:as[ks.length]?=AA b) (ht:p.told 6) (hC:p.more ks.length=1->p.nw ks ks.length=AE->bX=AC) (M:KnOk S ws Γ r) (hS:S.length+128<=900000) (hB:B.length+1<100000) (hA:A.length+1<100000) (hK:r.length<100000) (Q:ca∉ka::ba::aa::da::shL sh dn sa pa wa) (E:la∉ka::ba::aa::da::shL sh dn sa pa wa)
  (q:∀z o j g l cb y7 y8 y9 y10,Cxt p ks ks.length Γ z->FS sh dn sa pa wa ka ba aa da o j l (B++[.ref a]++[.ref b]) (A++[.ref ca]++[.ref cb]) g->g cb=AA (.lst [])->st cb=AE->S <+: o->o.length<=S.length+128->WUp ws j->KnOk o j z l->l.take r.length=r->l.length=r.length+p.more ks.length->KpI R (fL sh dn sa pa wa ka ba aa) st g->F.ct [AA nd,AA (.ref ka),AA nm,AA md,AA (.ref ba),AA (.ref aa),AA (.ref da),y7,y8,y9,y10] g) :
  i5 (Zl bX P G (n+1)) G8 F [AA nd,AA (.ref ka),AA nm,AA md,AA (.ref ba),AA (.ref aa),AA (.ref da),x7,x8,x9,I] st:=by
 have m:∀f∈([("program":Str),("inside":Str),("number":Str),("holders":Str),("ways":Str),("used":Str),("kind":Str)]:List Str),f∈G.cls "Node":=λf hf=>by rw[T.ncl];exact hf
 unfold G8 P2;simp only;∎;rw[l6 (.inl H.b)];refine⟨_,N6,?_⟩;∎;rw[l6 (.inl H.a)];refine⟨_,N6,?_⟩;rw[v6 (.inl hc)];∎;refine⟨a,"Node",_,.int h,rfl,U,m _ ∎,rfl,?_⟩;rfl';rw[if_neg ⋯];∎;refine⟨H.d,?_⟩;rfl';refine⟨a,"Node",_,.ref la,rfl,U,m _ ∎,rfl,?_⟩;rw[v6 (.inl hl)];rfl';have t:(t9 S ks).length=ks.length:=by simp[t9]
 have hlt:=(AT.mp hb).1;rw[if_pos (by rw[t,AV];lia),t];simp only[BR,AR,AW,or_false,not_or]at dj;obtain⟨⟨d1,d2,d3,d4⟩,⟨X,d6,d7⟩,⟨d8,d9⟩,d10,_⟩:=dj;have hcl0:=Q;have hll0:=E;simp only[AR,AW,or_false,not_or]at Q E;have j7:∀(F':DEnds)z o j g l,Cxt p ks ks.length Γ z->F'.ct=F.ct->FS sh dn sa pa wa ka ba aa da o j l (B++[.ref a]) (A++[.ref ca]) g->S <+: o->o.length<=S.length+128->WUp ws j->KnOk o j z l->l.take r.length=r->l.length=r.length+p.more ks.length->KpI R (fL sh dn sa pa wa ka ba aa) st g ->
   i5 (Zl bX P G (n+1)) (.cons (.ex (.app (.v 4) (.ix (.fld (.v 7) "inside") (.v 8)))) (.cons (.ex (.app (.v 5) (.lst .nil))) (.cons .cont .nil))) F' [AA nd,AA (.ref ka),AA nm,AA md,AA (.ref ba),AA (.ref aa),AA (.ref da),AA (.ref a),AA (.int ks.length),AA .non,I] g:=by
  intro F' z o j g l hC eF s e1 e2 e3 e4 e5 e6 W;obtain⟨kd',_,ha'⟩:=W.i a p la x h w kd U hkd;have Z:=W.lst hl (by simp[E]);∎;rw[B0 (.inl s.b)];refine⟨trivial,a,"Node",_,.ref la,rfl,ha',m _ ∎,rfl,?_⟩;rw[l6 (.inl Z)];refine⟨.ref b,by rw[C8,Ak,hb];rfl,?_⟩;rw[D6 s.b];refine⟨D5 (by simp;lia),?_⟩;∎;rw[B0 (.inl (f6 s.a (Ao X)))];refine⟨trivial,λcb hcb=>?_⟩;have C:=N0 hcb;have cbb:ba≠cb:=l5 s.b C;have cba:aa≠cb:=l5 s.a C;rw[D6 (j8 (f6 s.a (Ao X)) hcb)];refine⟨D5 (by simp;lia),?_⟩;∎;rw[eF];have V:Kp [ba,aa] g (b0 (b0 (b0 g ba (.lst (B++[.ref a]++[.ref b]))) cb (.lst [])) aa (.lst (A++[.ref ca]++[.ref cb]))):=((Kp.refl.put ∎).new hcb).put ∎;refine q z o j _ l cb _ _ _ _ hC ⟨s.K.keepL V ?_,V.at' s.k (by simp[d1,d2]),f6 (f6 f7 cbb) X,f7,V.at' s.d (by simp[Ao d6,Ao d8])⟩ (f6 f7 (Ao cba)) (W.e _ C) e1 e2 e3 e4 e5 e6 (((W.put ∎ s.b).new hcb).put ∎ (j8 (f6 s.a (Ao X)) hcb));intro y L;simp only[AR,AW,or_false]at L ⊢
  rcases L with rfl|rfl
  ·simp[d7]
  ·simp[d9]
 ∎;refine⟨by rw[T.more];rfl,a,"Node",_,p.d,rfl,U,m _ ∎,rfl,U7 (a97 T.toPIn p ks.length ?_)⟩;rfl'
 rcases ap8 p ks.length with m0|J
 ·simp only[m0];rw[if_neg ∅];exact j7 _ Γ S ws st r (.inl ⟨m0,rfl⟩) rfl H (CI _) ⋯ rfl M (FA ..) ⋯ KpI.refl
 ·simp only[J];∎;rw[B0 (.inl H.k)];refine⟨trivial,a56 Y ?_⟩;rfl';refine⟨a,"Node",_,p.d,rfl,U,m _ ∎,rfl,?_⟩;rw[l6 (.inl H.a)];refine⟨_,N6,?_⟩;refine N st S ws ca p ks.length ks _ H.K ht J rfl (hC J) hc hh hS λa0 hw o j g g1 g2 g3 g4 g5 g6=>?_;have O:=g6.at' H.k (by simp[d4]);rw[D6 O];refine⟨D5 (by simp;lia),?_⟩;have ek:r.map D.int++[D.int (nb o a0.d:Nat)]=(r++[((nb o a0.d:Nat):Int)]).map D.int:=by simp
  rw[ek];have V:Kp [ka] g (b0 g ka (.lst ((r++[((nb o a0.d:Nat):Int)]).map D.int))):=Kp.refl.put ∎;refine j7 _ (a0::Γ) o j _ (r++[((nb o a0.d:Nat):Int)]) (.inr ⟨J,a0,hw,rfl⟩) rfl ⟨g4.keepL V (by simp[d4]),f7,f6 (g6.at' H.b (by simp[d7])) (Ao d1),f6 (g6.at' H.a (by simp[d9])) (Ao d2),f6 (g6.at' H.d (by simp[d10])) (Ao d3)⟩ g2 g3 g5 ((M.up g4.A.wf g2 g5).cons (.inl ⟨rfl,g1⟩)) ∎ (by simp[J]) (((KpI.ofKp H.K g4 g6).more (by intro y L;simp only[AR,AW,or_false]at L ⊢;simp[L])).put ∎ O)
end
def KpI.ofMd{b:AI}{S:List It3}{w:Int}(K:KA sh dn sa pa wa S ws st)(d:KA sh dn sa pa wa S' ws' st')(y:Kp (b::shL sh dn sa pa wa) st st')(g:st b=AA (ndO c la x h w kd))(a:st' b=AA (ndO c la x h w kd'))(i:E2 kd')(f:b∈R):KpI R (shL sh dn sa pa wa) st st':=by
 refine⟨λz o n ho e=>y z o (λq=>?_) e,λz c2 la2 x2 h2 w2 kd2 e k=>?_,λz hz=>?_,λz o n m e=>y z o (λq=>by rcases AR.mp q with rfl|q;exact m f;exact n q) e⟩
 ·rcases AR.mp q with rfl|q
  ·rw[g]at e;cases e;exact ho _ _ rfl
  ·exact n q
 ·by_cases q:z=b
  ·subst q;rw[g]at e;refine⟨kd',i,?_⟩;rw[a];simp only[ndO,ndF,Bj,Ob.ins.injEq,Ai,JV,true_and,and_true]at e ⊢;exact⟨e.1,e.2.1,e.2.2.1,e.2.2.2.1,e.2.2.2.2.1⟩
  ·refine⟨kd2,k,y z _ (λt=>?_) e⟩
   rcases AR.mp t with t|t
   ·exact q t
   ·exact K.noNode e t
 ·by_cases q:z∈shL sh dn sa pa wa
  ·simp only[AR,AW,or_false]at q
   rcases q with rfl|rfl|rfl|rfl|rfl
   ·have:=d.A.ins;rw[hz]at this;cases this
   ·have:=d.A.num;rw[hz]at this;cases this
   ·have:=d.A.sto;rw[hz]at this;cases this
   ·have:=d.A.par;rw[hz]at this;cases this
   ·have:=d.W;rw[hz]at this;cases this
  ·cases e:st z with
   |none=>rfl
   |some u=>
    by_cases t:z=b
    ·subst t;rw[a]at hz;cases hz
    ·rw[y z u (by simp only[AR,not_or];exact⟨t,by simpa using q⟩) e]at hz;cases hz
abbrev W5:Ss:=match G8 with
 |.cons _ (.cons _ (.cons _ (.cons _ (.cons _ (.cons _ (.cons _ (.cons _ b)))))))=>b
 |_=>.nil
section
variable (T:PNo P G) {S:List It3} 
include T
def a65(I:Cok P md)(M:at6 bX P G (n+1) sh dn sa pa wa md)(dj:(ka::ba::aa::da::shL sh dn sa pa wa).Nodup){F:DEnds}{u:List Int}{B:List D}{b v:AI}{w:Int}{as:List AI}{x7 x8 x9 C:Option D}
  (H:FS sh dn sa pa wa ka ba aa da S ws u (B++[.ref b]) (A++[.ref v]) st) (Z:st v=AA (.lst (t9 S ks))) (hh:∀k∈ks,Has S k.d) (p:st b=AA (ndO c la x h w kd)) (N:E2 kd) (h1:h<=1) (hl:st la=AA (.lst (as.map D.ref))) (hn:as.length=ks.length) (ht:c.told 6) (L:ks.length=c.kids.length) (E:c.okc ks) (hk:c.kk Δ ks=AE->bX=AC) (J:KnOk S ws Δ u) (hS:S.length+128<=900000) (U:v∉shL sh dn sa pa wa) (V:b∈R)
  (q:∀k,c.kk Δ ks=AA k->∀o i g y7 y8,FS sh dn sa pa wa ka ba aa da o i u B A g->Has o k.d->S <+: o->o.length<=S.length+128->WUp ws i->KpI R (fL sh dn sa pa wa ka ba aa) st g->i5 (Zl bX P G (n+1)) W5 F [AA nd,AA (.ref ka),AA nm,AA md,AA (.ref ba),AA (.ref aa),AA (.ref da),y7,y8,AA .non,AA (.int (nb o k.d:Nat))] g) :
  i5 (Zl bX P G (n+1)) G8 F [AA nd,AA (.ref ka),AA nm,AA md,AA (.ref ba),AA (.ref aa),AA (.ref da),x7,x8,x9,C] st:=by
 have l:∀f∈([("program":Str),("inside":Str),("number":Str),("holders":Str),("ways":Str),("used":Str),("kind":Str)]:List Str),f∈G.cls "Node":=λf hf=>by rw[T.ncl];exact hf
 simp only[W5]at q;unfold G8 P2 at q ⊢;simp only at q ⊢;∎;rw[l6 (.inl H.b)];refine⟨_,N6,?_⟩;∎;rw[l6 (.inl H.a)];refine⟨_,N6,?_⟩;rw[v6 (.inl Z)];∎;refine⟨b,"Node",_,.int h,rfl,p,l _ ∎,rfl,?_⟩;rfl';rw[if_neg ⋯];∎;refine⟨H.d,?_⟩;rfl';refine⟨b,"Node",_,.ref la,rfl,p,l _ ∎,rfl,?_⟩;rw[v6 (.inl hl)];rfl';have j:(t9 S ks).length=ks.length:=by simp[t9]
 rw[if_neg (by rw[j,AV];lia),j];simp only[BR,AR,AW,or_false,not_or]at dj;obtain⟨⟨d1,d2,d3,d4⟩,⟨W,d6,d7⟩,⟨d8,d9⟩,X,_⟩:=dj;∎;refine⟨H.d,?_⟩;rfl';refine a56 I ?_;rfl';rw[l6 (.inl H.a)];refine⟨_,N6,?_⟩;refine M st S ws v ka b la c Δ ks u x h w kd _ H.K ht L E hk Z hh H.k J U hS p N λk hk0 o i g kd' g1 g2 g3 g4 g5 g6 g7 g8=>?_;have m:∀{y:AI}{ds:List D},st y=AA (.lst ds)->y≠b:=λe z=>by rw[z,p]at e;cases e
 have s:=g6.at' H.b (by simp only[AR,AW,or_false,not_or];exact⟨m H.b,d7⟩);have t:=g6.at' H.a (by simp only[AR,AW,or_false,not_or];exact⟨m H.a,d9⟩);have O:=g6.at' H.k (by simp only[AR,AW,or_false,not_or];exact⟨m H.k,d4⟩);have Q:=g6.at' H.d (by simp only[AR,AW,or_false,not_or];exact⟨λz=>(by have:=H.d;rw[z,p]at this;cases this),X⟩);∎;refine .inl ?_;∎;rw[ab4 s];∎;rw[ab4 (f6 t (Ao W))];have Y:Kp [ba,aa] g (b0 (b0 g ba (.lst B)) aa (.lst A)):=(Kp.refl.put ∎).put ∎;refine q k hk0 o i _ _ _ ⟨g4.keepL Y ?_,Y.at' O (by simp[d1,d2]),f6 f7 W,f7,Y.at' Q (by simp[Ao d6,Ao d8])⟩ g1 g2 g3 g5 ((((KpI.ofMd H.K g4 g6 p g7 g8 V).more (by intro y r;simp only[AR,AW,or_false]at r ⊢;simp[r])).put ∎ s).put ∎ (f6 t (Ao W)));intro y r;simp only[AR,AW,or_false]at r ⊢
 rcases r with rfl|rfl
 ·simp[d7]
 ·simp[d9]
theorem b38{F}{kn}{y7 y8 y9}{r}(H:FS sh dn sa pa wa ka ba aa da S ws kn [] A st)(q:F.rt r st):i5 (Zl bX P G (n+1)) W5 F [AA nd,AA (.ref ka),AA nm,AA md,AA (.ref ba),AA (.ref aa),AA (.ref da),y7,y8,y9,AA r] st:=by
 unfold W5 G8 P2;∎;rw[v6 (.inl H.b)];rfl';∎;exact q
def cg5(C:(ka::ba::aa::da::shL sh dn sa pa wa).Nodup){F:DEnds}{j kn0:List Int}{B:List D}{w:Int}{y7 y8 y9:Option D}{r:D}{i:List D}(H:FS sh dn sa pa wa ka ba aa da S ws j (B++[.ref a]) (A++[.ref ca]) st)(y:st ca=AA (.lst i))(Z:i.length<100000)(I:st a=AA (ndO p la x h w kd))(t:ca∉ka::ba::aa::da::shL sh dn sa pa wa)(k1:j.take kn0.length=kn0)(k2:j.length=kn0.length+p.more i.length)
  (q:∀c,FS sh dn sa pa wa ka ba aa da S ws kn0 (B++[.ref a]) (A++[.ref ca]) c->c ca=AA (.lst (i++[r]))->KpI R (ca::fL sh dn sa pa wa ka ba aa) st c->F.nx [AA nd,AA (.ref ka),AA nm,AA md,AA (.ref ba),AA (.ref aa),AA (.ref da),y7,y8,y9,AA r] c):i5 (Zl bX P G (n+1)) W5 F [AA nd,AA (.ref ka),AA nm,AA md,AA (.ref ba),AA (.ref aa),AA (.ref da),y7,y8,y9,AA r] st:=by
 have s:∀f∈([("program":Str),("inside":Str),("number":Str),("holders":Str),("ways":Str),("used":Str),("kind":Str)]:List Str),f∈G.cls "Node":=λf hf=>by rw[T.ncl];exact hf
 simp only[BR,AR,AW,or_false,not_or]at C t;obtain⟨⟨Q,N,M,L⟩,⟨d5,d6,d7⟩,⟨d8,d9⟩,O,_⟩:=C;obtain⟨E,X,W,V,U⟩:=t;unfold W5 G8 P2;∎;rw[v6 (.inl H.b)];rfl';rw[if_neg (by simp only[Ap,AY,BW];lia)];have z:∀c,FS sh dn sa pa wa ka ba aa da S ws kn0 (B++[.ref a]) (A++[.ref ca]) c->c ca=AA (.lst i)->KpI R (ca::fL sh dn sa pa wa ka ba aa) st c->i5 (Zl bX P G (n+1)) (.cons (.ex (.app (.ix (.v 5) (.neg (.int 1))) (.v 10))) .nil) F [AA nd,AA (.ref ka),AA nm,AA md,AA (.ref ba),AA (.ref aa),AA (.ref da),y7,y8,y9,AA r] c:=by
  intro c m l Y;∎;rw[l6 (.inl m.a)];refine⟨_,N6,?_⟩;rw[B0 (.inl l)];refine⟨trivial,?_⟩;rw[D6 l];refine⟨D5 ⋯,?_⟩;have g:Kp [ca] c (b0 c ca (.lst (i++[r]))):=Kp.refl.put ∎;exact q _ ⟨m.K.keepL g (by simp[U]),g.at' m.k (by simp[Ao E]),g.at' m.b (by simp[Ao X]),g.at' m.a (by simp[Ao W]),g.at' m.d (by simp[Ao V])⟩ f7 (Y.put ∎ l)
 ∎;refine⟨by rw[T.more];rfl,?_⟩;rw[l6 (.inl H.b)];refine⟨_,N6,a,"Node",_,p.d,rfl,I,s _ ∎,rfl,?_⟩;rw[l6 (.inl H.a)];refine⟨_,N6,?_⟩;rw[v6 (.inl y)];refine U7 (a97 T.toPIn p i.length ?_);rfl';have o:=ap8 p i.length
 rcases o with o|o
 ·rw[o]at k2 ⊢;have e:j=kn0:=by rw[Cv ⋯]at k1;exact k1
  subst e;exact z st H y KpI.refl
 ·rw[o]at k2 ⊢;rw[if_pos ∅];obtain⟨e,rfl⟩:∃e,j=kn0++[e]:=by
   have J:(j.drop kn0.length).length=1:=by rw[EG];lia
   match h4:j.drop kn0.length,J with
   |[e],_=>exact⟨e,by have:=FR kn0.length j;rw[k1,h4]at this;exact this.symm⟩
  have u:=H.k;rw[Af]at u;∎;rw[ab4 u];have g:Kp [ka] st (b0 st ka (.lst (kn0.map D.int))):=Kp.refl.put ∎;exact z _ ⟨H.K.keepL g (by simp[L]),f7,g.at' H.b (by simp[Ao Q]),g.at' H.a (by simp[Ao N]),g.at' H.d (by simp[Ao M])⟩ (g.at' y (by simp[E])) (KpI.refl.put ∎ u)
end
def FS.fresh{cb}{S}{kn}{B}(H:FS sh dn sa pa wa ka ba aa da S ws kn B A st)(h:st cb=AE):cb∉ka::ba::aa::da::shL sh dn sa pa wa:=by
 intro z;simp at z
 rcases z with rfl|rfl|rfl|rfl|rfl|rfl|rfl|rfl|rfl
 ·have:=H.k;rw[h]at this;cases this
 ·have:=H.b;rw[h]at this;cases this
 ·have:=H.a;rw[h]at this;cases this
 ·have:=H.d;rw[h]at this;cases this
 ·have:=H.K.A.ins;rw[h]at this;cases this
 ·have:=H.K.A.num;rw[h]at this;cases this
 ·have:=H.K.A.sto;rw[h]at this;cases this
 ·have:=H.K.A.par;rw[h]at this;cases this
 ·have:=H.K.W;rw[h]at this;cases this
def wl{Z}{tb}{F}{t}{env}(h:tb {F with nx:=A4 (wpT Z (.bl AC)) tb F t,ct:=A4 (wpT Z (.bl AC)) tb F t,bk:=F.nx} env st):A4 (wpT Z (.bl AC)) tb F (t+1) env st:=⟨AC,rfl,h⟩
def b68{S}(w:Wf S')(a:S <+: S')(h:∀k∈ks,Has S k.d):t9 S' ks=t9 S ks:=Im λk hk=>by rw[U5 w (h k hk) a]
abbrev A9(p:Pg)(Γ ks:List Kd)(i:Nat):Prop:=∀(j:Nat)c,j<i->p.kids[j]?=AA c->∃a Δ,ks[j]?=AA a/\Cxt p (ks.take j) j Γ Δ/\c.kind Δ=AA a
def Cxt.det{Δ'}(h:Cxt p ks i Γ Δ)(h':Cxt p ks i Γ Δ'):Δ=Δ':=by
 rcases h with⟨d,rfl⟩|⟨d,a,e,rfl⟩<;>rcases h' with⟨b,rfl⟩|⟨b,f,c,rfl⟩
 ·rfl
 ·lia
 ·lia
 ·grind
def A9.snoc{a:Kd}(h:A9 p Γ ks ks.length)(f:p.kids[ks.length]?=AA c)(g:Cxt p ks ks.length Γ Δ)(e:c.kind Δ=AA a):A9 p Γ (ks++[a]) (ks.length+1):=λj d hj hd=>by
 by_cases z:j<ks.length
 ·obtain⟨a,Δ,l,k,i⟩:=h j d z hd;exact⟨a,Δ,by rw[Aa z];exact l,by rw[Dr ⋯];exact k,i⟩
 ·obtain rfl:j=ks.length:=by lia
  rw[f]at hd;cases hd;exact⟨a,Δ,∎,by simpa using g,e⟩
def A9.eq{k:Kd}(h:A9 p Γ ks ks.length)(C:ks.length<=p.kids.length)(w:p.kind Γ=AA k):∃r,p.kk Γ (ks++r)=AA k/\A9 p Γ (ks++r) p.kids.length/\(ks++r).length=p.kids.length:=by
 obtain⟨b,A,z,u⟩:=Pg.kind_inv w;have l:∀i,i<=ks.length->ks.take i=b.take i:=by
  intro i
  induction i with
  |zero=>intro _;rfl
  |succ i f=>
   intro hi;have f:=f ⋯;obtain⟨c,g⟩:∃c,p.kids[i]?=AA c:=⟨_,AO ⋯⟩;obtain⟨a,B,y,t,x⟩:=h i c ⋯ g;obtain⟨D,v,n,m,d⟩:=u i c g;rw[f]at t;cases t.det m;rw[x]at d;cases d;rw[Jy,Jy,f,y,n]
 have e:=l ks.length (AX _);rw[FA]at e;have o:ks++b.drop ks.length=b:=by rw[e,DE,HK ⋯,FR]
 exact⟨b.drop ks.length,by rw[o];exact z,by rw[o];exact λj c _ g=>u j c g,by rw[o];exact A⟩
def a85(h:A9 p Γ ks ks.length)(b:p.kids[ks.length]?=AA c)(j:Cxt p ks ks.length Γ Δ)(g:c.kind Δ=AE):p.kind Γ=AE:=by
 cases hk:p.kind Γ with
 |none=>rfl
 |some k=>
  have i:=(AT.mp b).1;obtain⟨r,_,l,_⟩:=h.eq ⋯ hk;obtain⟨a,f,_,e,d⟩:=l ks.length c i b;rw[Dr (AX _),FA]at e;cases e.det j;rw[g]at d;cases d
def ce9(h:A9 p Γ ks ks.length)(b:ks.length<p.kids.length)(j:p.more ks.length=1)(i:p.nw ks ks.length=AE):p.kind Γ=AE:=by
 cases hk:p.kind Γ with
 |none=>rfl
 |some k=>
  obtain⟨r,_,g,_⟩:=h.eq ⋯ hk;obtain⟨c,f⟩:∃c,p.kids[ks.length]?=AA c:=⟨_,AO b⟩;obtain⟨a,e,_,d,l⟩:=g ks.length c b f;rw[Dr (AX _),FA]at d
  rcases d with⟨z,_⟩|⟨_,a,z,_⟩
  ·lia
  ·grind
def a96(h:A9 p Γ ks ks.length)(b:ks.length=p.kids.length)(a:p.kk Γ ks=AE):p.kind Γ=AE:=by
 cases hk:p.kind Γ with
 |none=>rfl
 |some k=>
  obtain⟨r,d,_,c⟩:=h.eq ⋯ hk;simp_all
def A9.kid{a}(h:A9 p Γ ks m)(d:j<m)(e:p.kids[j]?=AA c)(f:ks[j]?=AA a)(l:p.more j=0):Kn Γ c a:=by
 obtain⟨n,k,b,i,g⟩:=h j c d e;rw[f]at b;cases b
 rcases i with⟨_,rfl⟩|⟨z,_⟩
 ·exact W9 g
 ·lia
def A9.kid1{a}(h:A9 p Γ ks m)(e:j<m)(f:p.kids[j]?=AA c)(i:ks[j]?=AA a)(o:p.more j=1)(g:p.nw (ks.take j) j=AA b):Kn (b::Γ) c a:=by
 obtain⟨r,n,d,l,k⟩:=h j c e f;rw[i]at d;cases d
 rcases l with⟨z,_⟩|⟨_,q,z,rfl⟩
 ·lia
 ·rw[g]at z;cases z;exact W9 k
theorem A9.okc(h:A9 p Γ ks ks.length)(c:ks.length=p.kids.length):p.okc ks:=by
 cases p<;>first|trivial|skip
 rename_i t u v
 match ks,c with
 |[x,a,b],_=>
  obtain⟨_,e,_,d,_⟩:=h 1 u ∎ rfl
  rcases d with⟨z,_⟩|⟨_,f,z,_⟩
  ·cases z
  ·cases x<;>first|(cases z;done)|exact⟨_,_,_,rfl⟩
def bb6{k:Kd}(h:A9 p Γ ks ks.length)(f:ks.length=p.kids.length)(e:p.kk Γ ks=AA k):p.kind Γ=AA k:=by
 refine Kn.kind ?_;cases p
 case name=>match ks,f with|[],_=>exact .name e
 case star=>match ks,f with|[],_=>cases e;exact .star
 case pair t u=>match ks,f with|[a,b],_=>cases e;exact .pair (h.kid (j:=0) ∎ rfl rfl rfl) (h.kid (j:=1) ∎ rfl rfl rfl)
 case first t=>match ks,f with|[a],_=>cases a<;>cases e;exact .first (h.kid (j:=0) ∎ rfl rfl rfl)
 case second t=>match ks,f with|[a],_=>cases a<;>cases e;exact .second (h.kid (j:=0) ∎ rfl rfl rfl)
 case left b t=>match ks,f with|[a],_=>cases e;exact .left (h.kid (j:=0) ∎ rfl rfl rfl)
 case right b t=>match ks,f with|[a],_=>cases e;exact .right (h.kid (j:=0) ∎ rfl rfl rfl)
 case way b t=>match ks,f with|[a],_=>cases e;exact .way (h.kid1 (j:=0) ∎ rfl rfl rfl rfl)
 case lets t u=>match ks,f with|[a,b],_=>cases e;exact .lets (h.kid (j:=0) ∎ rfl rfl rfl) (h.kid1 (j:=1) ∎ rfl rfl rfl rfl)
 case never b t=>match ks,f with|[a],_=>cases a<;>cases e;exact .never (h.kid (j:=0) ∎ rfl rfl rfl)
 case give t u=>
  match ks,f with
  |[x,c],_=>
   cases x<;>first|(cases e;done)|skip
   rename_i a b _;replace e:(if a=c then AA b else AE)=AA k:=e
   by_cases z:a=c
   ·rw[if_pos z]at e;subst z;cases e;exact .give (h.kid (j:=0) ∎ rfl rfl rfl) (h.kid (j:=1) ∎ rfl rfl rfl)
   ·rw[if_neg z]at e;cases e
 case case t u v=>
  match ks,f with
  |[x,c,d],_=>
   cases x<;>first|(cases e;done)|skip
   rename_i a b _;replace e:(if c=d then AA c else AE)=AA k:=e
   by_cases z:c=d
   ·rw[if_pos z]at e;subst z;cases e;exact .case (h.kid (j:=0) ∎ rfl rfl rfl) (h.kid1 (j:=1) ∎ rfl rfl rfl rfl) (h.kid1 (j:=2) ∎ rfl rfl rfl rfl)
   ·rw[if_neg z]at e;cases e
section
variable (T:PNo P G) 
include T
def b08(hnm:Cok P nm)(N:av4 bX P G (n+1) sh dn sa pa wa nm)(hmd:Cok P md)(M:at6 bX P G (n+1) sh dn sa pa wa md)(dj:(ka::ba::aa::da::shL sh dn sa pa wa).Nodup){F:DEnds}:∀(z:Nat)(p:Pg),p.parts<=z->p.kn 6->∀{Γ:List Kd}{h:Int}{st0 st:Sto}{X:List AI}{S:List It3}{ws:List (Kd×Bool)}{kn:List Int}{B A:List D}{a ca:AI}{f:List AI}{x7 x8 x9 x10:Option D}{m:Nat},
  (p.kind Γ=AE->bX=AC)->h<=1->Nd st0 X st h p a f->(∀y∈f,y∈R)->(∀y∈ca::da::fL sh dn sa pa wa ka ba aa,y∈X)->FS sh dn sa pa wa ka ba aa da S ws kn (B++[.ref a]) (A++[.ref ca]) st->st ca=AA (.lst [])->KnOk S ws Γ kn->S.length+256*p.parts<=900000->B.length+p.parts<100000->A.length+p.parts<100000->kn.length+p.parts<100000->ca∉ka::ba::aa::da::shL sh dn sa pa wa ->
  (∀S' ws' st' ks y7 y8 y9 y10,FS sh dn sa pa wa ka ba aa da S' ws' kn (B++[.ref a]) (A++[.ref ca]) st'->st' ca=AA (.lst (t9 S' ks))->ks.length=p.kids.length->(∀k∈ks,Has S' k.d)->A9 p Γ ks ks.length->S <+: S'->S'.length+256<=S.length+256*p.parts->WUp ws ws'->KpI R (ca::fL sh dn sa pa wa ka ba aa) st st'->A4 (wpT (Zl bX P G (n+1)) (.bl AC)) (i5 (Zl bX P G (n+1)) G8) F m [AA nd,AA (.ref ka),AA nm,AA md,AA (.ref ba),AA (.ref aa),AA (.ref da),y7,y8,y9,y10] st') ->
  A4 (wpT (Zl bX P G (n+1)) (.bl AC)) (i5 (Zl bX P G (n+1)) G8) F (m+2*(p.parts-1)) [AA nd,AA (.ref ka),AA nm,AA md,AA (.ref ba),AA (.ref aa),AA (.ref da),x7,x8,x9,x10] st:=by
 intro z
 induction z with
 |zero=>intro p hz;have:=Pg.parts_kids p;lia
 |succ z ih=>
  intro p hz hkn7 Γ h st0 st X S ws kn B A a ca f x7 x8 x9 x10 m hk h1 nd0 hR hX H hc hkn hS hB hA hK hcl q;have hpk:=Pg.parts_kids p;have inner:∀(j i:Nat),i+j=p.kids.length->∀{ks:List Kd}{S1:List It3}{ws1:List (Kd×Bool)}{st1:Sto}{y7 y8 y9 y10:Option D},FS sh dn sa pa wa ka ba aa da S1 ws1 kn (B++[.ref a]) (A++[.ref ca]) st1->ks.length=i->A9 p Γ ks ks.length->st1 ca=AA (.lst (t9 S1 ks))->(∀k∈ks,Has S1 k.d)->S <+: S1->S1.length+256*((p.kids.drop i).map Pg.parts).sum+256<=S.length+256*p.parts->WUp ws ws1->KpI R (ca::fL sh dn sa pa wa ka ba aa) st st1->A4 (wpT (Zl bX P G (n+1)) (.bl AC)) (i5 (Zl bX P G (n+1)) G8) F (m+2*((p.kids.drop i).map Pg.parts).sum) [AA nd,AA (.ref ka),AA nm,AA md,AA (.ref ba),AA (.ref aa),AA (.ref da),y7,y8,y9,y10] st1:=by
   intro j
   induction j with
   |zero=>
    intro i hi ks S1 ws1 st1 y7 y8 y9 y10 H1 htl hok hc1 hh1 p1 l1 w1 K1;rw[DY ⋯]at l1 ⊢;simp only[EB,ID,Nat.mul_zero,LR]at l1 ⊢;exact q S1 ws1 st1 ks _ _ _ _ H1 hc1 ⋯ hh1 hok p1 l1 w1 K1
   |succ j ihj=>
    intro i hi ks S1 ws1 st1 y7 y8 y9 y10 H1 htl hok hc1 hh1 p1 l1 w1 K1;have hil:i<p.kids.length:=by lia
    obtain⟨c,hci⟩:∃c,p.kids[i]?=AA c:=⟨_,AO hil⟩;have hdr:p.kids.drop i=c::p.kids.drop (i+1):=by
     rw[ER hil];rw[AO hil]at hci;cases hci;rfl
    rw[hdr]at l1 ⊢;simp only[Ag,Dn]at l1 ⊢;have cpos:=Pg.parts_kids c;have hcm:c∈p.kids:=Az hci;have hcs:=V6 Pg.parts hcm;have hci2:p.kids[ks.length]?=AA c:=by rw[htl];exact hci
    have n1:=nd0.kpi K1 (λy hy=>hX y (by simp only[AR]at hy ⊢;rcases hy with h|h;exact .inl h;exact .inr (.inr h)));obtain⟨hkX⟩:Nonempty (p.told 6):=⟨Pg.told_kn hkn7⟩;generalize hr:((p.kids.drop (i+1)).map Pg.parts).sum=r at l1 ⊢;rw[show m+2*(c.parts+r)=((m+2*r+1)+2*(c.parts-1))+1 by lia];refine wl ?_;cases n1 with
    |@mk _ _ _ la x w kd as fs e1 e2 e3 e4 e5 e6 e7 e8 e9=>
    obtain⟨b,hbi⟩:∃b,as[i]?=AA b:=⟨_,AO ⋯⟩;obtain⟨fb,hfi⟩:∃b,fs[i]?=AA b:=⟨_,AO ⋯⟩;have nb1:=e9 i c b fb hci hbi hfi;have hRb:∀y∈fb,y∈R:=λy hy=>hR y (Am _ (CJ.mpr ⟨fb,Az hfi,hy⟩));have hla:la∉ka::ba::aa::da::shL sh dn sa pa wa:=λz=>e4 (hX _ (by simp only[AR,AW,or_false]at z ⊢;rcases z with z|z|z|z|z|z|z|z|z<;>simp[z]));refine bt8 (R:=R) T hnm N dj (ks:=ks) (Γ:=Γ) H1 hc1 hh1 e1 e2 h1 e3 hci2 (by rw[htl];exact hbi) hkX (λm1 z=>hk (ce9 hok ⋯ m1 z)) (hkn.up H1.K.A.wf p1 w1) ⋯ ⋯ ⋯ ⋯ hcl hla λΔ S2 ws2 st2 kn2 cb v7 v8 v9 v10 hC H2 hcb hcb0 p2 l2 w2 k2 k3 k4 K2=>?_;rw[htl]at k4;have cbf:=H1.fresh hcb0;have hm01:=ap8 p i;have nb2:=(nb1.addX hcb0).kpi K2 (λy hy=>Am _ (hX y (by simp only[AR]at hy ⊢;exact .inr (.inr hy))));refine ih c ⋯ (Pg.kn_kids p hkn7 c hcm) (λz=>hk (a85 hok hci2 hC z)) ∅ nb2 hRb (λy hy=>by
     rcases AR.mp hy with rfl|hy
     ·simp
     ·exact Am _ (hX y (Am _ hy))) H2 hcb k2 ⋯ (by simp;lia) (by simp;lia) ⋯ cbf λS3 ws3 st3 ks3 u7 u8 u9 u10 H3 hc3 kl3 hh3 hok3 p3 l3 w3 K3=>?_
    refine wl ?_;have nb3:=nb2.kpi K3 (λy hy=>by
     rcases AR.mp hy with rfl|hy
     ·simp
     ·exact Am _ (hX y (by simp only[AR]at hy ⊢;exact .inr (.inr hy))))
    cases nb3 with
    |@mk _ _ _ lb xb wb kdb asb fsb b1 b2 b3 b4 b5 b6 b7 b8 b9=>
    refine a65 (R:=R) T hmd M dj H3 hc3 hh3 b1 b2 ∅ b3 ⋯ (Pg.told_kn (Pg.kn_kids p hkn7 c hcm)) kl3 (hok3.okc kl3) (λz=>hk (a85 hok hci2 hC (a96 hok3 kl3 z))) (k2.up H3.K.A.wf p3 w3) ⋯ (by simp only[AR,AW,or_false,not_or]at cbf ⊢;simp[cbf]) (hRb b (by obtain⟨_,_,_,_,_,_,h,_⟩:=nb1.root;exact h)) λa0 hk0 S4 ws4 st4 t7 t8 H4 g1 p4 l4 w4 K4=>?_;have K14:KpI R (ca::fL sh dn sa pa wa ka ba aa) st1 st4:=by
     refine KpI.drop (p:=cb) ?_ hcb0;exact((K2.more (λd hd=>by simp only[AR]at hd ⊢;exact .inr (.inr hd))).trans (K3.more (λd hd=>by simp only[AR]at hd ⊢;rcases hd with h|h;exact .inl h;exact .inr (.inr h)))).trans (K4.more (λd hd=>by simp only[AR]at hd ⊢;exact .inr (.inr hd)))
    have hcaf:ca∉fL sh dn sa pa wa ka ba aa:=by simp only[AR,AW,or_false,not_or]at hcl ⊢;simp[hcl]
    have hcab:ca≠cb:=l5 hc1 hcb0;have hca4:st4 ca=AA (.lst (t9 S1 ks)):=K4.lst (K3.lst (K2.lst hc1 hcaf) (by simp only[AR,not_or];simp only[AR,not_or]at hcaf;exact⟨hcab,hcaf⟩)) hcaf;obtain⟨kd4,_,ha4⟩:=K14.i a p la x h w kd e1 e2;have hp14:S1 <+: S4:=p2.trans (p3.trans p4);refine cg5 (R:=R) T dj (p:=p) (kn0:=kn) H4 hca4 (by have:=aq5 Pg.parts_kids p.kids;simp only[t9,AV,htl];lia) ha4 hcl k3 (by rw[k4];simp only[t9,AV,htl]) λst5 H5 hc5 K5=>?_;rw[<-hr];refine ihj (i+1) ⋯ (ks:=ks++[a0]) H5 (by simp[htl]) (by have:=hok.snoc hci2 hC (bb6 hok3 kl3 hk0);simpa using this) ?_ ?_ (p1.trans hp14) (by rw[hr];lia) (w1.trans (w2.trans (w3.trans w4))) (K1.trans (K14.trans K5))
    ·rw[hc5];have:t9 S4 (ks++[a0])=t9 S4 ks++[.int (nb S4 a0.d:Nat)]:=by simp[t9]
     rw[this,b68 H4.K.A.wf hp14 hh1]
    ·intro y hy
     rcases Bf.mp hy with hy|hy
     ·exact(hh1 y hy).mono hp14
     ·simp only[Bx]at hy;subst hy;exact g1
  have:=inner p.kids.length 0 ⋯ (ks:=[]) (y7:=x7) (y8:=x8) (y9:=x9) (y10:=x10) H rfl (λ_ _ hj=>absurd hj (Nat.not_lt_zero _)) (by simpa[t9]using hc) ∎ (CI _) (by simp only[LV];lia) rfl KpI.refl;simp only[LV]at this;rw[show p.parts-1=(p.kids.map Pg.parts).sum by lia];exact this
end
def KA.fresh{x}{S}(K:KA sh dn sa pa wa S ws st)(h:st x=AE):x∉shL sh dn sa pa wa:=by
 intro z;simp only[AR,AW,or_false]at z
 rcases z with rfl|rfl|rfl|rfl|rfl
 ·have:=K.A.ins;rw[h]at this;cases this
 ·have:=K.A.num;rw[h]at this;cases this
 ·have:=K.A.sto;rw[h]at this;cases this
 ·have:=K.A.par;rw[h]at this;cases this
 ·have:=K.W;rw[h]at this;cases this
def ShD.all(h:ShD sh dn sa pa wa):(shL sh dn sa pa wa).Nodup:=by
 have c:=h.nd;have b:=h.wd;have a:=h.ws;grind
section
variable (T:PNo P G) {S:List It3} 
include T
def bv3(Y:Cok P nm)(N:av4 bX P G (n+1) sh dn sa pa wa nm)(E:Cok P md)(M:at6 bX P G (n+1) sh dn sa pa wa md){p:Pg}{C:Sto}{J:List Int}(Z:G.cls "!kt"≠[])(hk:p.kind Γ=AE->bX=AC)(h7:p.kn 6)(nd:Nd C X st 0 p a f)(K:KA sh dn sa pa wa S ws st)(l:st ka=AA (.lst (J.map D.int)))(H:KnOk S ws Γ J)(hS:S.length+256*p.parts<=900000)(hkl:J.length<=50000)(F:ka∉shL sh dn sa pa wa)(hX:∀y∈ka::shL sh dn sa pa wa,y∈X)
  (q:∀k,p.kind Γ=AA k->∀S' V u,Has S' k.d->KA sh dn sa pa wa S' V u->KpI f (ka::shL sh dn sa pa wa) st u->Q (.int (nb S' k.d:Nat)) u):J0 bX P G (n+2) "folded" [.ref a,.ref ka,nm,md] st Q:=by
 refine ag1 T.fol rfl [AA (.ref a),AA (.ref ka),AA nm,AA md,AE,AE,AE,AE,AE,AE,AE] rfl ?_;∎;intro g x;intro c o;intro i m;refine⟨Z,λda hda=>?_⟩;have s:st g=AE:=x;have r:st c=AE:=N0 o;have t:st i=AE:=N0 (N0 m);have B:st da=AE:=N0 (N0 (N0 hda));have L:g≠c:=l5 f7 o;have ab:g≠i:=l5 (f6 f7 L) m;have ac:c≠i:=l5 f7 m;have db:g≠da:=l5 (f6 (f6 f7 L) ab) hda;have dc:c≠da:=l5 (f6 f7 ac) hda;have dA:i≠da:=l5 f7 hda;have kb:ka≠g:=l5 l s;have kc:ka≠c:=l5 l r;have kA:ka≠i:=l5 l t;have kD:ka≠da:=l5 l B;have U:KpI f (ka::shL sh dn sa pa wa) st (b0 (b0 (b0 (b0 st g (.lst [.ref a])) c (.lst [])) i (.lst [.ref c])) da (.dtt [])):=((((KpI.refl.new x).new o).new m).new hda);have O:Kp [] st (b0 (b0 (b0 (b0 st g (.lst [.ref a])) c (.lst [])) i (.lst [.ref c])) da (.dtt [])):=((((Kp.refl.new x).new o).new m).new hda);have j:Nd C (da::i::c::g::X) (b0 (b0 (b0 (b0 st g (.lst [.ref a])) c (.lst [])) i (.lst [.ref c])) da (.dtt [])) 0 p a f:=(((nd.addX s).addX r).addX t |>.addX B).kpi U (λy b=>by simp[hX y b]);have H4:FS sh dn sa pa wa ka g i da S ws J ([]++[.ref a]) ([]++[.ref c]) (b0 (b0 (b0 (b0 st g (.lst [.ref a])) c (.lst [])) i (.lst [.ref c])) da (.dtt [])):=⟨K.keep O,O.at' l ∎,f6 (f6 (f6 f7 L) ab) db,f6 f7 dA,f7⟩;have w:(b0 (b0 (b0 (b0 st g (.lst [.ref a])) c (.lst [])) i (.lst [.ref c])) da (.dtt [])) c=AA (.lst []):=f6 (f6 f7 ac) dc;have dj:(ka::g::i::da::shL sh dn sa pa wa).Nodup:=by
  refine BR.mpr ⟨?_,BR.mpr ⟨?_,BR.mpr ⟨?_,BR.mpr ⟨K.fresh B,K.D0.all⟩⟩⟩⟩
  ·simp only[AR,not_or];simp only[AR,not_or]at F;exact⟨kb,kA,kD,F⟩
  ·have:=K.fresh s;simp only[AR,not_or]at this ⊢;exact⟨ab,db,this⟩
  ·have:=K.fresh t;simp only[AR,not_or]at this ⊢;exact⟨dA,this⟩
 have v:c∉ka::g::i::da::shL sh dn sa pa wa:=by
  have:=K.fresh r;simp only[AR,not_or]at this ⊢;exact⟨Ao kc,Ao L,ac,dc,this⟩
 refine⟨1+2*(p.parts-1),?_⟩;revert U O j H4 w;generalize b0 (b0 (b0 (b0 st g (.lst [.ref a])) c (.lst [])) i (.lst [.ref c])) da (.dtt [])=st4;intro U O j H4 w;have I:∀y∈c::da::fL sh dn sa pa wa ka g i,y∈da::i::c::g::X:=by
  intro y b
  rcases AR.mp b with rfl|b
  ·simp
  rcases AR.mp b with rfl|b
  ·simp
  rcases AR.mp b with rfl|b
  ·simp[hX y ∎]
  rcases AR.mp b with rfl|b
  ·simp
  rcases AR.mp b with rfl|b
  ·simp
  ·simp[hX y (Am _ b)]
 refine b08 (R:=f) T Y N E M dj p.parts p (AX _) h7 hk ∅ j (λy b=>b) I H4 w H hS (by simp;lia) (by simp;lia) ⋯ v λS1 ws1 st1 ks y7 y8 y9 y10 H1 hc1 kl hh1 hok p1 l1 w1 K1=>?_;refine wl ?_;have W:=j.kpi K1 (λy b=>I y (by simp only[AR]at b ⊢;rcases b with h|h;exact .inl h;exact .inr (.inr h)));have har:a∈f:=by obtain⟨_,_,_,_,_,_,h,_⟩:=j.root;exact h
 cases W with
 |@mk _ _ _ lb xb wb kdb asb fsb b1 b2 b3 b4 b5 b6 b7 b8 b9=>
 refine a65 (R:=a::fsb.flatten) T E M dj H1 hc1 hh1 b1 b2 ∅ b3 ⋯ (Pg.told_kn h7) kl (hok.okc kl) (λz=>hk (a96 hok kl z)) (H.up H1.K.A.wf p1 w1) ⋯ (by simp only[AR,not_or]at v ⊢;exact v.2.2.2.2) har λk hk0 S2 ws2 st2 t7 t8 H2 g1 p2 l2 w2 K2=>?_;refine b38 T H2 (c0 (q k (bb6 hok kl hk0) S2 ws2 st2 g1 H2.K ?_));refine KpI.drop (p:=g) (KpI.drop (p:=i) (KpI.drop (p:=c) ?_ r) t) s;refine((U.more λy b=>?_).trans (K1.more λy b=>?_)).trans (K2.more λy b=>?_)
 ·simp only[AR]at b ⊢;exact .inr (.inr (.inr b))
 ·simp only[AR]at b ⊢
  rcases b with h|h|h|h|h
  ·exact .inl h
  ·exact .inr (.inr (.inr (.inl h)))
  ·exact .inr (.inr (.inl h))
  ·exact .inr (.inl h)
  ·exact .inr (.inr (.inr (.inr h)))
 ·simp only[AR]at b ⊢
  rcases b with h|h|h|h
  ·exact .inr (.inr (.inr (.inl h)))
  ·exact .inr (.inr (.inl h))
  ·exact .inr (.inl h)
  ·exact .inr (.inr (.inr (.inr h)))
end
def Nd.fresh{st0}(n:Nd st0 X st h p a f):∀b∈f,st0 b=AE:=by
 induction n with
 |@mk h p a l x w kd k j v u t s r g q o m d=>
  intro b c
  rcases AR.mp c with rfl|c
  ·exact g
  ·obtain⟨f,e,c⟩:=CJ.mp c;obtain⟨i,hi,rfl⟩:=IY.mp e;exact d i p.kids[i] k[i] j[i] (AO ⋯) (AO ⋯) (AO hi) b c
section
variable (T:PNo P G) (hx:G.cls "!ix"≠[]) {S:List It3} 
include T hx
def bs8(hn:19<=n){R:Sto}{I:List Int}(A:p.kind Γ=AE->bX=AC)(h7:p.kn 6)(nd:Nd R X st 0 p a f)(K:KA sh dn sa pa wa S O st)(t:st z=AA (.lst (I.map D.int)))(s:KnOk S O Γ I)(H:S.length+256*p.parts<=900000)(W:I.length<=50000)(V:z∉shL sh dn sa pa wa)(hX:∀y∈z::shL sh dn sa pa wa,y∈X)
  (q:∀k,p.kind Γ=AA k->∀S' l g,Has S' k.d->KA sh dn sa pa wa S' l g->KpI f (z::shL sh dn sa pa wa) st g->Q (.int (nb S' k.d:Nat)) g):J0 bX P G n "kind_of_node" [.ref a,.ref z,.ref sh] st Q:=by
 obtain⟨n,rfl⟩:∃m,n=m+3:=⟨n-3,⋯⟩;have B:∀f∈([("program":Str),("inside":Str),("number":Str),("holders":Str),("ways":Str),("used":Str),("kind":Str)]:List Str),f∈G.cls "Node":=λf hf=>by rw[T.ncl];exact hf
 refine ag1 T.kon rfl [AA (.ref a),AA (.ref z),AA (.ref sh),AE,AE,AE,AE] rfl ?_;(iterate 3 ∎);refine⟨by rw[T.fol];rfl,au9 (bv3 T (show Cok P (.clo _ _ _ _) from trivial) ?_ (show Cok P (.clo _ _ _ _) from trivial) ?_ T.kt A h7 nd K t s H W V hX λk A S' l g h1 h2 h3=>c0 (q k A S' l g h1 h2 h3))⟩
 ·intro st S O N p i ks Q K U hm hi A B E H q;refine bl1 (a63 rfl [AA p.d,AA (.ref N),AA (.int i),AA (.ref sh)] rfl ?_);∎;refine⟨by rw[T.nnm];rfl,?_⟩;cases e:p.nw ks i with
  |some a=>exact U7 (bq6 T.toPKo ⋯ K U hm e B E H λS' l g h1 h2 h3 h4 h5 h6=>c0 (q a e S' l g h1 h2 h3 h4 h5 h6))
  |none=>
   cases A e;exact .inl (br5 T.toPKo hx ⋯ K hm hi e B E)
 ·intro st S O N z b la p Γ ks I x h w kd Q K U hl ho A F E t s Z H M Y q;refine bl1 (a63 rfl [AA (.ref b),AA (.ref N),AA (.ref z),AA (.ref sh),AE] rfl ?_);∎;refine⟨by rw[T.kbp];rfl,b,"Node",_,p.d,rfl,M,B _ ∎,rfl,?_⟩;cases e:p.kk Γ ks with
  |none=>
   cases A e;exact .inl (cr8 T.toPKo hx ⋯ K hl ho e F E t s.len)
  |some k=>
  refine U7 (cs8 T.toPKo ⋯ K U e F E t s Z H λS' l g h1 h2 h3 h4 h5 h6=>?_);have C:=h6.at' M (K.noNode M);have fin:∀kd',E2 kd'->Q (.int (nb S' k.d:Nat)) (b0 g b (ndO p la x h w kd')):=λkd' hk'=>q k e S' l _ kd' h1 h2 h3 (h4.keepL (Kp.refl.put (L:=[b]) ∎) (by intro y J;simp only[Bx]at J;subst J;exact K.noNode M)) h5 ((h6.more (by intro y J;exact Am _ J)).put ∎) f7 hk';∎;refine⟨b,"Node",_,kd,rfl,C,B _ ∎,rfl,?_⟩;have r:∀kd',E2 kd'->∃p c fs,D.ref b=D.ref p/\g p=AA (.ins c fs)/\("kind":Str)∈G.cls c/\fs.length<1000/\i5 (Zl bX P G n) (.cons (.ret (.v 4)) .nil) (j9 Q) [AA (.ref b),AA (.ref N),AA (.ref z),AA (.ref sh),AA (.int (nb S' k.d:Nat))] (b0 g p (.ins c (l7 "kind" kd' fs))):=λkd' hk'=>⟨b,"Node",_,rfl,C,B _ ∎,by simp[ndF],by
   rw[by0];∎;exact c0 (fin kd' hk')⟩
  rcases Y with rfl|⟨j,rfl⟩
  ·exact .inl ⟨rfl,r _ (.inr ⟨_,rfl⟩)⟩
  ·refine .inr ⟨nofun,b,"Node",_,.int j,rfl,C,B _ ∎,rfl,?_⟩;rfl'
   split
   ·exact r _ (.inr ⟨_,rfl⟩)
   ·exact r _ (.inr ⟨_,rfl⟩)
def bu1(hn:20<=n){kn}(hp:p.parts<=2000)(hk:p.kind Γ=AE->bX=AC)(h7:p.kn 6)(K:KA sh dn sa pa wa S ws st)(hka:st ka=AA (.lst (kn.map D.int)))(hkn:KnOk S ws Γ kn)(hS:S.length+256*p.parts<=900000)(hkl:kn.length<=50000)(hks:ka∉shL sh dn sa pa wa)
  (q:∀k,p.kind Γ=AA k->∀S' ws' st',Has S' k.d->KA sh dn sa pa wa S' ws' st'->Kp (ka::shL sh dn sa pa wa) st st'->Q (.int (nb S' k.d)) st'):J0 bX P G n "shelved_kind" [p.d,.ref ka,.ref sh] st Q:=by
 obtain⟨n,rfl⟩:∃m,n=m+1:=⟨n-1,⋯⟩;refine ag1 T.shk rfl [AA p.d,AA (.ref ka),AA (.ref sh)] rfl ?_;∎;refine⟨by rw[T.kon];rfl,by rw[T.nod];rfl,?_⟩;intro na hna;have K0:Kp [] st (b0 st na (.lst [])):=Kp.refl.new hna;have KA0:=K.keep K0;have hxx:∀x∈ka::shL sh dn sa pa wa,∃o,b0 st na (.lst []) x=AA o:=by
  intro x hx;simp only[AR,AW,or_false]at hx
  rcases hx with rfl|rfl|rfl|rfl|rfl|rfl
  ·exact⟨_,j8 hka hna⟩
  ·exact⟨_,KA0.A.ins⟩
  ·exact⟨_,KA0.A.num⟩
  ·exact⟨_,KA0.A.sto⟩
  ·exact⟨_,KA0.A.par⟩
  ·exact⟨_,KA0.W⟩
 refine U7 (bx3 T ⋯ hp f7 hxx λa f st' nd K1=>?_);have hnk:=l5 hka hna;refine au9 (bs8 T hx ⋯ hk h7 nd (KA0.keepL K1 (by intro y hy;simp only[Bx]at hy;subst hy;exact K.fresh hna)) (K1.at' (j8 hka hna) (by simpa using hnk)) hkn hS hkl hks (λy hy=>hy) λk hk0 S' ws' st2 h1 h2 h3=>c0 (q k hk0 S' ws' st2 h1 h2 λb o nb e=>?_));have e1:=j8 (u:=.lst []) e hna;exact h3.k b o nb (λz=>by rw[nd.fresh b z]at e1;cases e1) (K1.at' e1 (by simpa using l5 e hna))
end
def En.app{S}{l}{e}{k}(h:En S ws e k):En S (ws++l) e k:=by
 rcases h with h|⟨j,b,e,h⟩
 ·exact .inl h
 ·exact .inr ⟨j,b,e,Aa (AT.mp h).1▸h⟩
theorem KnOk.app{S}{l}{kn}(h:KnOk S ws Γ kn):KnOk S (ws++l) Γ kn:=
 ⟨h.len,λm k hk=>let⟨e,b,a⟩:=h.at' m k hk;⟨e,b,a.app⟩⟩
section
variable (T:PNo P G) {S:List It3}
include T
def br2(j:∀k∈Γ,k.nest<=6)(v:Γ.length<2000)(K:KA sh dn sa pa wa S [] st)
  (q:∀h f ka b,KA sh dn sa pa wa S h b->st ka=AE->b ka=AA (.lst (f.map D.int))->KnOk S h Γ f->f.length=Γ.length->Kp [wa] st b->Q (.ref ka) b):sem P G (n+2) "shelved_names" [.tup (Γ.map Kd.d),.ref sh] st Q:=by
 refine i8 T.shn rfl [AA (.tup (Γ.map Kd.d)),AA (.ref sh)] rfl ?_;∎;refine⟨by simp;lia,?_⟩;refine R9 (λl acc env' b=>∃(a c:List Kd)(x:Option D)(f:List Int),Γ.reverse=a++c/\l=c.map Kd.d/\acc=f.map D.int/\env'=[AA (.ref sh),x]/\KA sh dn sa pa wa S (a.map λk=>(k,AG)) b/\KnOk S (a.map λk=>(k,AG)) a.reverse f/\Kp [wa] st b) ?_ ?_ _ _ _ _ ⟨[],Γ.reverse,AE,[],rfl,by rw[JU],rfl,rfl,K,⟨rfl,λm k hk=>(by simp at hk)⟩,Kp.refl⟩
 ·rintro acc env' b ⟨a,c,x,f,e1,e2,rfl,rfl,K1,k1,K2⟩;have t:c=[]:=by simpa using e2.symm
  subst t;rw[BM]at e1;refine⟨trivial,λka hka=>?_⟩;have u:a.reverse=Γ:=by rw[<-e1,IX]
  rw[u]at k1;have i:st ka=AE:=by
   cases e:st ka with
   |none=>rfl
   |some o=>
    by_cases z:ka=wa
    ·have:=K1.W;rw[<-z,hka]at this;cases this
    ·rw[K2.at' e (by simpa using z)]at hka;cases hka
  exact c0 (q _ f ka _ (K1.keep (Kp.refl.new hka)) i f7 k1 k1.len (K2.new hka))
 ·rintro d ds acc env' b ih ⟨a,c,x,f,e1,e2,rfl,rfl,K1,k1,K2⟩;refine⟨trivial,?_⟩;cases c with
  |nil=>simp at e2
  |cons k c=>
   simp only[Ag,Ai]at e2;obtain⟨rfl,rfl⟩:=e2;have p:k∈Γ:=by
    have:k∈Γ.reverse:=by rw[e1];simp
    simpa using this
   have m:a.length<2000:=by
    have:=congrArg Gw e1;simp at this;lia
   refine⟨.ref sh,rfl,sh,"Shelf",_,rfl,K1.A.ins,rfl,by rw[T.ptb];rfl,k.d,rfl,?_⟩;refine bx8 T.toPKd K1 (j k p) (by simpa using m) λst2 K3 K4=>?_;refine ih _ _ _ ⟨a++[k],c,_,f++[-(((a.map λk=>(k,AG)).length:Int)+1)],by rw[e1];simp,rfl,∎,rfl,by simpa using K3,?_,K2.trans K4⟩;rw[Io,Af];exact(k1.app).cons (.inr ⟨a.length,AG,∎,∎⟩)
end
section
variable (T:PNo P G) (hx:G.cls "!ix"≠[]) 
include T hx
def a07(u:24<=n)(t:p.parts<=2000)(f:∀k∈Γ,k.nest<=6)(j:Γ.length<2000)(l:p.kind Γ=AE->bX=AC)(r:p.kn 6)(q:∀k,p.kind Γ=AA k->∀a,Kp [] st a->Q k.d a):J0 bX P G n "kind_of" [p.d,.tup (Γ.map Kd.d)] st Q:=by
 obtain⟨n,rfl⟩:∃m,n=m+3:=⟨n-3,⋯⟩;refine ag1 T.ko rfl [AA p.d,AA (.tup (Γ.map Kd.d)),AE] rfl ?_;∎;refine⟨by rw[T.init];rfl,λsh hsh=>?_⟩;refine bi9 (n:=n+1) ?_;refine bw0 T.toPSh hsh λdn sa pa wa s1 A1 hd hfr hw1 hw2 hw3 K1=>⟨rfl,?_⟩;have c:KA sh dn sa pa wa [] [] s1:=⟨A1,⟨hd,hw1,hw2⟩,hw3,∎,∎,∎⟩;∎;refine⟨sh,"Shelf",_,rfl,A1.ins,rfl,by rw[T.tup];rfl,by rw[T.shk];rfl,by rw[T.shn];rfl,?_⟩;refine U7 (br2 T (n:=n) f j c λws2 kn ka s2 KA2 hka0 hka hkn hkl K2=>?_);have g:=c.fresh hka0;refine au9 (bu1 T hx ⋯ ⋯ l r KA2 hka hkn (by simp;lia) ⋯ g λk hk0 S3 ws3 s3 h3 KA3 K3=>?_);refine U7 (b28 T.toPSh KA3.A h3 (c0 (q k hk0 s3 λb o _ e=>?_)));have i:=K1.at' e ∎;have h:b∉shL sh dn sa pa wa:=λz=>by rw[hfr b z]at e;cases e
 have s:=K2.at' i (by simp only[Bx];exact λz=>h (by simp[z]));exact K3.at' s (by simp only[AR,not_or];exact⟨l5 i hka0,by simpa using h⟩)
end
abbrev oD:Option Kd->D
 |some k=>k.d
 |none=>.non
theorem ay9:∀l(i j),P9 (p9 i l) (.inl (i+j:Nat))=l[j]?
 |[],i,j=>rfl
 |x::r,i,j=>by
  unfold P9 p9;rw[Bk];cases j with
  |zero=>simp
  |succ j=>
   have h:¬((.inl i:Key)=.inl (i+(j+1):Nat)):=λz=>by lia
   simp only[h,decide_false];have:=ay9 r (i+1) j;unfold P9 at this;rw[show i+1+j=i+(j+1) by lia]at this;rw[this];simp
def cf8:(P9 (p9 0 (Γ.map Kd.d)) (.inl i)).getD .non=oD Γ[i]?:=by
 have:=ay9 (Γ.map Kd.d) 0 i;rw[Jn]at this;rw[this,Ak];cases Γ[i]?<;>rfl
def ah6(k:Kd):k.d≠.non:=by cases k<;>exact nofun
def ag5 o:(oD o).pure=AC:=by
 cases o with
 |none=>rfl
 |some k=>exact y3 k
def bi4 a b:deq (oD a) (oD b)=AB (a=b):=by
 cases a with
 |none=>cases b with
  |none=>rfl
  |some k=>cases k<;>rfl
 |some j=>cases b with
  |none=>cases j<;>rfl
  |some k=>simp only[oD,G4,Bj]
def c95{o}(h:∀k,o=AA k->k.nest<=m):o4 (oD o)<=m+1:=by
 cases o with
 |none=>exact BU _
 |some k=>simp only[oD,C5];lia
def S5{m'}{a}(h1:∀y∈Γ,y.nest<=m)(h:m<=m')(h2:a.nest<=m'):∀y∈a::Γ,y.nest<=m':=λy hy=>by
 rcases AR.mp hy with rfl|hy
 ·exact h2
 ·exact Ax (h1 y hy) h
abbrev Pg.up:Pg->Nat
 |.name _=>1|.star=>1
 |.pair t u=>1+max t.up u.up|.first t=>1+t.up|.second t=>1+t.up|.left _ t=>1+t.up|.right _ t=>1+t.up
 |.case t u v=>1+t.up+max u.up v.up|.way _ t=>1+t.up|.give t u=>1+max t.up u.up|.lets t u=>1+t.up+u.up|.never _ t=>1+t.up
def Pg.up_le(p:Pg):p.up<=p.parts:=by
 induction p<;>simp only[Pg.up,Pg.parts]<;>lia
def an6{k:Kd}(h:Kn Γ p k):∀{m:Nat},(∀y∈Γ,y.nest<=m)->6<=m->p.kn 6->k.nest<=m+p.up:=by
 induction h with
 |name h=>intro m a _ _;exact Ax (a _ (Az h)) (EW _ _)
 |star=>intros;exact BU _
 |pair _ _ i j=>intro m a c b;have:=i a c b.1;have:=j a c b.2;simp only[Kd.nest,Pg.up];lia
 |first _ i=>intro m a c b;have:=i a c b;simp only[Kd.nest,Pg.up]at *;lia
 |second _ i=>intro m a c b;have:=i a c b;simp only[Kd.nest,Pg.up]at *;lia
 |left _ i=>intro m a c b;have:=i a c b.2;have:=b.1;simp only[Kd.nest,Pg.up];lia
 |right _ i=>intro m a c b;have:=i a c b.2;have:=b.1;simp only[Kd.nest,Pg.up];lia
 |case _ _ _ i j l=>intro m a c b;have f:=i a c b.1;simp only[Kd.nest]at f;rename_i t _ _ _ _ _ _ _ _;have:=@j (m+t.up) (S5 a (EW m _) ⋯) ⋯ b.2.1;simp only[Pg.up];lia
 |way _ i=>intro m a c b;have:=i (S5 a (AX m) (Ax b.1 c)) c b.2;have:=b.1;simp only[Kd.nest,Pg.up];lia
 |give _ _ i j=>intro m a c b;have:=i a c b.1;simp only[Kd.nest,Pg.up]at *;lia
 |lets _ _ i j=>intro m a c b;have f:=i a c b.1;have:=j (S5 a (EW m _) f) ⋯ b.2;simp only[Pg.up];lia
 |never _ i=>intro m a c b;exact Ax b.1 ⋯
structure Ft(m:Nat)(p:Pg)(Γ:List Kd):Prop where
 hΓ:∀y∈Γ,y.nest<=m
 m6:6<=m
 kn:p.kn 6
 room:m+p.up<=148
theorem Ft.nest{k}(f:Ft m p Γ)(h:p.kind Γ=AA k):k.nest<=m+p.up:=an6 (W9 h) f.hΓ f.m6 f.kn
def Ft.dp(f:Ft m p Γ):o4 (oD (p.kind Γ))<=149:=Ax (c95 λk=>f.nest) (by have:=f.room;lia)
def cse(x y:Option Kd):(match x,y with|some k,AA l=>if k=l then AA k else AE|_,_=>AE)=if x=y then x else AE:=by
 cases x<;>cases y<;>simp
abbrev Ss.tl:Ss->Ss
 |.nil=>.nil
 |.cons _ r=>r
section
variable (B:PB P) (hk:P "_law_kind_of"=AA M7) (hc:P "_law_kind_of_case"=AA ac8)
include B hk hc
def co7:∀(h:Nat)(p:Pg){m:Nat}{Γ:List Kd}{n:Nat}{st:Sto}{Q:DK},p.hgt<=h->h<=100->2*h+3<=n->Ft m p Γ->Γ.length+h<=900->(∀st',Kp [] st st'->Q (oD (p.kind Γ)) st')->sem P G n "_law_kind_of" [p.d,.tup (Γ.map Kd.d)] st Q:=by
 intro h
 induction h with
 |zero=>intro p m Γ n st Q l;cases p<;>simp only[Pg.hgt]at l<;>lia
 |succ h A=>
  intro p m Γ n st Q l hh hn F hl q;obtain⟨n,rfl⟩:∃m,n=m+2:=⟨n-2,⋯⟩;refine i8 hk rfl [AA p.d,AA (.tup (Γ.map Kd.d)),AE,AE,AE,AE] rfl ?_;have s:∀{w:String}{r:List D}{t:Pg}{ts:List Pg},p.d=.tup (.str w::r)->p.kids=t::ts->w≠"name"->w≠"star"->w≠"way"->Ft m t Γ->t.hgt<=h->(t.kind Γ=AE->p.kind Γ=AE)->(∀a,t.kind Γ=AA a->∀s1,Kp [] st s1->i5 (Zg P G (n+1)) M7.body.tl.tl.tl.tl.tl.tl (j9 Q) [AA p.d,AA (.tup (Γ.map Kd.d)),AA (.str w),AE,AA a.d,AE] s1)->i5 (Zg P G (n+1)) M7.body (j9 Q) [AA p.d,AA (.tup (Γ.map Kd.d)),AE,AE,AE,AE] st:=by
   intro w r t ts R X U T S Y W J M;have N:∀{Q:DK},Q (.tup (p.kids.map Pg.d)) st->sem P G (n+1) "_law_inner" [p.d] st Q:=λh=>an4 B p h;rw[R,X]at N;rw[R]at M ⊢;unfold M7;∎;refine sk1 rfl U (sk1 rfl T (sk1 rfl S ?_));∎;refine⟨by rw[hk];rfl,by rw[B.inner];rfl,N ?_⟩;simp only[Ag];rfl';refine A t W ⋯ ⋯ Y ⋯ λs1 K1=>?_;cases ek:t.kind Γ with
   |some a=>exact skN rfl (ah6 _) (M a ek s1 K1)
   |none=>
    simp only[oD];(iterate 2 ∎);have:=q s1 K1;rw[J ek]at this;exact .inl (c0 this)
  obtain⟨k2,f,k3,o⟩:=F;cases p
  case name i=>
   unfold M7;simp only[Pg.d];(iterate 3 ∎);refine⟨by rw[AV];lia,λa ha=>⟨⟨_,f7⟩,⟨_,f7,?_⟩⟩⟩;rw[cf8];exact c0 (q _ (Kp.refl.new ha))
  case star=>
   unfold M7;simp only[Pg.d];∎;refine sk1 rfl ∅ ?_;(iterate 2 ∎);exact c0 (q _ Kp.refl)
  case way a t=>
   unfold M7;simp only[Pg.hgt]at l;simp only[Pg.up]at o;simp only[Pg.d];∎
   iterate 2 refine sk1 rfl ∅ ?_
   (iterate 2 ∎);rw[L5];refine⟨by rw[hk];rfl,C9 (by simp only[AV];lia),A t ⋯ ⋯ ⋯ ⟨S5 k2 (AX _) (Ax k3.1 f),f,k3.2,⋯⟩ (by simp only[AY];lia) λs1 K1=>?_⟩;simp only[Pg.kind]at q;∎;intro c hc;cases ek:t.kind (a::Γ)with
   |none=>rw[ek]at q;exact .inl ⟨rfl,c0 (q _ (K1.new hc))⟩
   |some b=>rw[ek]at q;exact .inr ⟨ah6 _,c0 (q _ (K1.new hc))⟩
  case case t u v=>
   simp only[Pg.hgt]at l;simp only[Pg.up]at o;refine s rfl rfl ∅ ∅ ∅ ⟨k2,f,k3.1,⋯⟩ ⋯ (λe=>by simp only[Pg.kind,e]) λx ex s1 K1=>?_;simp only[Pg.kind,ex]at q;have I:=an6 (W9 ex) k2 f k3.1;change i5 _ (.cons _ _) _ _ _;simp only[Pg.d];(iterate 2 ∎);refine⟨by rw[hc];rfl,?_⟩;refine i8 hc rfl [AA (Pg.case t u v).d,AA x.d,AA (.tup (Γ.map Kd.d)),AE,AE] rfl ?_;unfold ac8;cases x
   case eith a b=>
    simp only[Kd.nest]at I;simp only[Pg.d,Kd.d];(iterate 2 ∎);rw[L5];have E:Ft (m+t.up) u (a::Γ):=⟨S5 k2 (EW _ _) ⋯,⋯,k3.2.1,⋯⟩;refine⟨by rw[hk];rfl,C9 (by simp only[AV];lia),A u ⋯ ⋯ ⋯ E (by simp only[AY];lia) λs2 K2=>?_⟩;∎;rw[L5];refine⟨by rw[hk];rfl,C9 (by simp only[AV];lia),A v (m:=m+t.up) ⋯ ⋯ ⋯ ⟨S5 k2 (EW _ _) ⋯,⋯,k3.2.2,⋯⟩ (by simp only[AY];lia) λs3 K3=>?_⟩;∎;intro y O;rw[ah8,bi4];refine⟨ag5 _,ag5 _,Ax (GM _ _) (Ax E.dp ∅),?_⟩;replace q:∀st',Kp [] st st'->Q (oD (if u.kind (a::Γ)=v.kind (b::Γ)then u.kind (a::Γ)else AE)) st':=λst' k=>by rw[<-cse];exact q st' k
    by_cases H:u.kind (a::Γ)=v.kind (b::Γ)
    ·rw[if_pos H]at q;rw[decide_eq_true H];rfl';exact c0 (c0 (q _ (((K1.trans K2).trans K3).new O)))
    ·rw[if_neg H]at q;rw[decide_eq_false H];rfl';exact c0 (c0 (q _ (((K1.trans K2).trans K3).new O)))
   all_goals
    simp only[Pg.d,Kd.d];(iterate 2 ∎);exact c0 (c0 (q _ K1))
  case lets t u=>
   simp only[Pg.hgt]at l;simp only[Pg.up]at o;refine s rfl rfl ∅ ∅ ∅ ⟨k2,f,k3.1,⋯⟩ ⋯ (λe=>by simp only[Pg.kind,e]) λa ex s1 K1=>?_;simp only[Pg.kind,ex]at q;have I:=an6 (W9 ex) k2 f k3.1;change i5 _ (.cons _ _) _ _ _;simp only[Pg.d];refine sk1 rfl ∅ ?_;(iterate 2 ∎);rw[L5];exact⟨by rw[hk];rfl,C9 (by simp only[AV];lia),A u (m:=m+t.up) ⋯ ⋯ ⋯ ⟨S5 k2 (EW _ _) I,⋯,k3.2,⋯⟩ (by simp only[AY];lia) λs2 K2=>c0 (q _ (K1.trans K2))⟩
  case never b t=>
   simp only[Pg.hgt]at l;simp only[Pg.up]at o;refine s rfl rfl ∅ ∅ ∅ ⟨k2,f,k3.2,⋯⟩ ⋯ (λe=>by simp only[Pg.kind,e]) λa ex s1 K1=>?_;simp only[Pg.kind,ex]at q;change i5 _ (.cons _ _) _ _ _;simp only[Pg.d]
   iterate 2 refine sk1 rfl ∅ ?_
   (iterate 2 ∎);intro x V;rw[show(D.tup [.str "none"])=Kd.non.d from rfl,ah8,G4];refine⟨y3 _,y3 _,Ax (FY _ _) ∅,?_⟩;cases a<;>(simp only[decide_true,reduceCtorEq,decide_false];rfl';exact c0 (q _ (K1.new V)))
  case left b t=>
   simp only[Pg.hgt]at l;simp only[Pg.up]at o;refine s rfl rfl ∅ ∅ ∅ ⟨k2,f,k3.2,⋯⟩ ⋯ (λe=>by simp only[Pg.kind,e]) λa ex s1 K1=>?_;simp only[Pg.kind,ex]at q;change i5 _ (.cons _ _) _ _ _;simp only[Pg.d]
   iterate 3 refine sk1 rfl ∅ ?_
   (iterate 2 ∎);exact c0 (q _ K1)
  case right b t=>
   simp only[Pg.hgt]at l;simp only[Pg.up]at o;refine s rfl rfl ∅ ∅ ∅ ⟨k2,f,k3.2,⋯⟩ ⋯ (λe=>by simp only[Pg.kind,e]) λa ex s1 K1=>?_;simp only[Pg.kind,ex]at q;change i5 _ (.cons _ _) _ _ _;simp only[Pg.d]
   iterate 4 refine sk1 rfl ∅ ?_
   (iterate 2 ∎);exact c0 (q _ K1)
  case first t=>
   simp only[Pg.hgt]at l;simp only[Pg.up]at o;refine s rfl rfl ∅ ∅ ∅ ⟨k2,f,k3,⋯⟩ ⋯ (λe=>by simp only[Pg.kind,e]) λx ex s1 K1=>?_;simp only[Pg.kind,ex]at q;change i5 _ (.cons _ _) _ _ _;simp only[Pg.d]
   iterate 5 refine sk1 rfl ∅ ?_
   (iterate 2 ∎);cases x
   case both a b=>
    simp only[Kd.d];rfl';∎;exact⟨_,rfl,c0 (q _ K1)⟩
   all_goals
    simp only[Kd.d];rfl';∎;exact c0 (q _ K1)
  case second t=>
   simp only[Pg.hgt]at l;simp only[Pg.up]at o;refine s rfl rfl ∅ ∅ ∅ ⟨k2,f,k3,⋯⟩ ⋯ (λe=>by simp only[Pg.kind,e]) λx ex s1 K1=>?_;simp only[Pg.kind,ex]at q;change i5 _ (.cons _ _) _ _ _;simp only[Pg.d]
   iterate 5 refine sk1 rfl ∅ ?_
   (iterate 2 ∎);cases x
   case both a b=>
    simp only[Kd.d];rfl';∎;exact⟨_,rfl,c0 (q _ K1)⟩
   all_goals
    simp only[Kd.d];rfl';∎;exact c0 (q _ K1)
  case pair t u=>
   simp only[Pg.hgt]at l;simp only[Pg.up]at o;refine s rfl rfl ∅ ∅ ∅ ⟨k2,f,k3.1,⋯⟩ ⋯ (λe=>by simp only[Pg.kind,e]) λa ex s1 K1=>?_;simp only[Pg.kind,ex]at q;simp only[Pg.d]
   iterate 5 refine sk1 rfl ∅ ?_
   (iterate 2 ∎);refine⟨by rw[hk];rfl,A u (m:=m) ⋯ ⋯ ⋯ ⟨k2,f,k3.2,⋯⟩ ⋯ λs2 K2=>?_⟩;(iterate 2 ∎);intro c hc;cases ek:u.kind Γ with
   |none=>rw[ek]at q;exact .inl ⟨rfl,c0 (q _ ((K1.trans K2).new hc))⟩
   |some b=>rw[ek]at q;exact .inr ⟨ah6 _,c0 (q _ ((K1.trans K2).new hc))⟩
  case give t u=>
   simp only[Pg.hgt]at l;simp only[Pg.up]at o;refine s rfl rfl ∅ ∅ ∅ ⟨k2,f,k3.1,⋯⟩ ⋯ (λe=>by simp only[Pg.kind,e]) λx ex s1 K1=>?_;simp only[Pg.kind,ex]at q;change i5 _ (.cons _ _) _ _ _;simp only[Pg.d]
   iterate 5 refine sk1 rfl ∅ ?_
   (iterate 2 ∎);have E:Ft m u Γ:=⟨k2,f,k3.2,⋯⟩;refine⟨by rw[hk];rfl,A u ⋯ ⋯ ⋯ E ⋯ λs2 K2=>?_⟩;refine sk1 rfl ∅ ?_;cases x
   case way a b=>
    simp only[Kd.d];∎;cases ek:u.kind Γ with
    |none=>
     rw[ek]at q;simp only[oD];rfl';exact .inl (c0 (q _ (K1.trans K2)))
    |some c=>
     rw[ek]at q;simp only[oD];refine .inr ⟨ah6 _,?_⟩;have Z:=E.nest ek;rw[ah7,G4];refine⟨y3 _,y3 _,Ax (FY _ _) (by rw[C5];lia),?_⟩
     by_cases z:a=c
     ·simp only[z,decide_true];rfl';∎;exact c0 (by have:=q _ (K1.trans K2);simp only[if_pos z]at this;exact this)
     ·simp only[z,decide_false];rfl';exact c0 (by have:=q _ (K1.trans K2);simp only[if_neg z]at this;exact this)
   all_goals
    simp only[Kd.d];(iterate 2 ∎);exact c0 (q _ (K1.trans K2))
end
structure Put(p:Pg)(i:Nat)(fr:List D)(c:Pg)(put:Pg->Pg):Prop where
 at_:p.kids[i]?=AA c
 d:p.d=.tup (fr++p.kids.map Pg.d)
 l1:1<=fr.length
 l2:fr.length<=2
 w:∀w,(put w).d=.tup (fr++(p.kids.set i w).map Pg.d)/\(put w).parts+c.parts=p.parts+w.parts/\(put w).hgt<=max p.hgt (1+w.hgt)/\(p.kn 6->w.kn 6->(put w).kn 6)
def Pg.one_kid(p:Pg)(i:Nat)(hi:i<p.kids.length):∃fr c g,Put p i fr c g:=by
 have k:∀{p:Pg}{i:Nat}{c:Pg}(fr:List D)(f:Pg->Pg),p.kids[i]?=AA c->p.d=.tup (fr++p.kids.map Pg.d)->(∀w,(f w).d=.tup (fr++(p.kids.set i w).map Pg.d))->1<=fr.length/\fr.length<=2/\(∀w,(f w).parts+c.parts=p.parts+w.parts/\(f w).hgt<=max p.hgt (1+w.hgt)/\(p.kn 6->w.kn 6->(f w).kn 6))->∃fr c g,Put p i fr c g:=λfr f a b d e=>⟨fr,_,f,a,b,e.1,e.2.1,λw=>⟨d w,e.2.2 w⟩⟩;cases p<;>rcases i with _|_|_|i<;>first|(exfalso;simp only[Pg.kids,AY,BW]at hi;lia)|skip
 refine k [_] (.pair · _) rfl rfl (λ_=>rfl) ?_;rotate_left;refine k [_] (.pair _ ·) rfl rfl (λ_=>rfl) ?_;rotate_left;refine k [_] (.first) rfl rfl (λ_=>rfl) ?_;rotate_left;refine k [_] (.second) rfl rfl (λ_=>rfl) ?_;rotate_left;refine k [_,_] (.left _) rfl rfl (λ_=>rfl) ?_;rotate_left;refine k [_,_] (.right _) rfl rfl (λ_=>rfl) ?_;rotate_left;refine k [_] (.case · _ _) rfl rfl (λ_=>rfl) ?_;rotate_left;refine k [_] (.case _ · _) rfl rfl (λ_=>rfl) ?_;rotate_left;refine k [_] (.case _ _ ·) rfl rfl (λ_=>rfl) ?_;rotate_left;refine k [_,_] (.way _) rfl rfl (λ_=>rfl) ?_;rotate_left;refine k [_] (.give · _) rfl rfl (λ_=>rfl) ?_;rotate_left;refine k [_] (.give _ ·) rfl rfl (λ_=>rfl) ?_;rotate_left;refine k [_] (.lets · _) rfl rfl (λ_=>rfl) ?_;rotate_left;refine k [_] (.lets _ ·) rfl rfl (λ_=>rfl) ?_;rotate_left;refine k [_,_] (.never _) rfl rfl (λ_=>rfl) ?_;rotate_left
 all_goals
  simp only[Pg.parts,Pg.hgt,Pg.kn];exact⟨∎,∎,λw=>⟨⋯,⋯,λh h2=>by simp[h,h2]⟩⟩
structure Oth(p w:Pg):Prop where
 parts:w.parts<=p.parts+max (p.parts+1) 63
 hgt:w.hgt<=p.hgt+15
 kn:w.kn 6
section
variable (B:PB P) (ho:P "_law_otherwise"=AA ac9) 
include B ho
def bo0(hn:50<=n)(hl:Γ.length<=700)(hp:p.kn 6)(I:o5 st da)(q:∀(w:Pg)st',Oth p w->o5 st' da->Kp [da] st st'->Q w.d st'):sem P G n "_law_otherwise" [.ref da,p.d,.tup (Γ.map Kd.d)] st Q:=by
 obtain⟨n,rfl⟩:∃m,n=m+2:=⟨n-2,⋯⟩;refine i8 ho rfl [AA (.ref da),AA p.d,AA (.tup (Γ.map Kd.d)),AE] rfl ?_;unfold ac9;have p1:=Pg.parts_kids p;∎;refine⟨by rw[B.next];rfl,z9 B.toPB0 (m:=9) ∅ I λr st1 r0 r1 I1 K1=>?_⟩;∎
 by_cases h0:r=0
 ·rw[if_pos h0];∎;refine⟨by rw[B.next];rfl,z9 B.toPB0 (by simp only[AV];lia) I1 λx st2 x0 x1 I2 K2=>?_⟩;obtain⟨x,rfl⟩:=Ex x0;exact c0 (q (.name x) st2 ⟨by simp only[Pg.parts];lia,by simp only[Pg.hgt];lia,trivial⟩ I2 (K1.trans K2))
 rw[if_neg h0];∎
 by_cases h1:r=1
 ·rw[if_pos h1];∎;refine⟨by rw[B.program];rfl,by rw[B.kind];rfl,N5 B.toPB0 (most:=9) ∅ ∅ 2 ⋯ I1 λk st2 gk bk nk I2 K2=>?_⟩;rfl';exact Q8 B ⋯ ⋯ I2 gk (Kd.bd_mono ∅ bk) ⋯ ⋯ λw st3 _ hw pw mw _ _ I3 K3=>c0 (q w st3 ⟨⋯,⋯,mw⟩ I3 ((K1.trans K2).trans K3))
 rw[if_neg h1];∎
 by_cases h2:r=2
 ·rw[if_pos h2];∎;exact c0 (q (.first p) st1 ⟨by simp only[Pg.parts];lia,by simp only[Pg.hgt];lia,hp⟩ I1 K1)
 rw[if_neg h2];∎
 by_cases h3:r=3
 ·rw[if_pos h3];∎;exact c0 (q (.second p) st1 ⟨by simp only[Pg.parts];lia,by simp only[Pg.hgt];lia,hp⟩ I1 K1)
 rw[if_neg h3];∎
 by_cases h4:r=4
 ·rw[if_pos h4];∎;exact c0 (q (.give p p) st1 ⟨by simp only[Pg.parts];lia,by simp only[Pg.hgt];lia,hp,hp⟩ I1 K1)
 rw[if_neg h4];∎
 by_cases h5:r=5
 ·rw[if_pos h5];∎;refine⟨by rw[B.kind];rfl,N5 B.toPB0 (most:=4) ∅ ∅ 1 ⋯ I1 λk st2 gk bk nk I2 K2=>?_⟩;exact c0 (q (.never k p) st2 ⟨by simp only[Pg.parts];lia,by simp only[Pg.hgt];lia,⋯,hp⟩ I2 (K1.trans K2))
 rw[if_neg h5];∎
 by_cases h6:r=6
 ·rw[if_pos h6];∎;intro la hla;refine⟨by rw[B.next];rfl,z9 B.toPB0 (m:=2) ∅ (I1.new hla) λx st2 x0 x1 I2 K2=>?_⟩;have hl2:=K2.at' (f7 (st:=st1) (a:=la)) (by simpa using Ao (I1.ne hla));rw[l6 (.inl hl2)];have fin:∀w:Pg,w.parts=1->w.hgt=1->w.kn 6->(j9 Q).rt (.tup [.str "case",p.d,.tup [.str "star"],w.d]) st2:=λw w1 w2 w3=>c0 (q (.case p .star w) st2 ⟨by simp only[Pg.parts];lia,by simp only[Pg.hgt];lia,hp,trivial,w3⟩ I2 (K1.trans ((Kp.refl.new hla).trans K2)));obtain rfl|rfl:x=0\/x=1:=by lia
  ·exact⟨_,rfl,fin .star rfl rfl trivial⟩
  ·exact⟨_,rfl,fin (.name 0) rfl rfl trivial⟩
 rw[if_neg h6];∎;have nm:(j9 Q).rt (.tup [.str "name",.int (Γ.length:Nat)]) st1:=c0 (q (.name Γ.length) st1 ⟨by simp only[Pg.parts];lia,by simp only[Pg.hgt];lia,trivial⟩ I1 K1);have kd:∀(f:Kd->Pg),(∀k:Kd,(f k).parts=p.parts/\(f k).hgt=p.hgt/\(k.nest<=6->(f k).kn 6))->∀{Q':DK},(∀(k:Kd)st2,(j9 Q).rt (f k).d st2->Q' k.d st2)->sem P G (n+1) "_law_kind" [.ref da,.int 1,.int 4] st1 Q':=λf hf Q' h=>N5 B.toPB0 (most:=4) ∅ ∅ 1 ⋯ I1 λk st2 gk bk nk I2 K2=>h k st2 (c0 (q (f k) st2 ⟨by rw[(hf k).1];lia,by rw[(hf k).2.1];lia,(hf k).2.2 ⋯⟩ I2 (K1.trans K2)));cases p<;>simp only[Pg.d]
 all_goals
  rfl';simp only[O7,R0,E4,DI,true_and,FQ,Km,J9,u6,JQ,decide_true,decide_false,Ko,KS,Hw,EX,E6,if_true,Bm,if_false];refine⟨∅,?_⟩;rfl';∎
 all_goals first
  |(rw[AV];exact nm)
  |skip
 ·exact⟨by rw[B.kind];rfl,kd (λk=>.left k _) (λk=>⟨rfl,rfl,λh=>⟨h,hp.2⟩⟩) λk st2 h=>h⟩
 ·exact⟨by rw[B.kind];rfl,kd (λk=>.right k _) (λk=>⟨rfl,rfl,λh=>⟨h,hp.2⟩⟩) λk st2 h=>h⟩
 ·exact⟨by rw[B.kind];rfl,kd (λk=>.way k _) (λk=>⟨rfl,rfl,λh=>⟨h,hp.2⟩⟩) λk st2 h=>h⟩
 ·exact⟨by rw[B.kind];rfl,kd (λk=>.never k _) (λk=>⟨rfl,rfl,λh=>⟨h,hp.2⟩⟩) λk st2 h=>h⟩
def bu6(u:P "_law_spoilt"=AA ad2)(E:Γ.length<=700):∀(h:Nat)(p:Pg){n:Nat}{st:Sto}{Q:DK},p.hgt<=h->h+52<=n->p.kn 6->o5 st da->(∀(w:Pg)b,Oth p w->o5 b da->Kp [da] st b->Q w.d b)->sem P G n "_law_spoilt" [.ref da,p.d,.tup (Γ.map Kd.d)] st Q:=by
 intro h
 induction h with
 |zero=>intro p n st Q v;cases p<;>simp only[Pg.hgt]at v<;>lia
 |succ h A=>
  intro p n st Q v T i I q;obtain⟨n,rfl⟩:∃m,n=m+2:=⟨n-2,⋯⟩;refine i8 u rfl [AA (.ref da),AA p.d,AA (.tup (Γ.map Kd.d)),AE,AE,AE,AE] rfl ?_;∎;refine⟨by rw[B.inner];rfl,an4 B p ?_⟩;have f:∀{e:Sto},o5 e da->Kp [da] st e->sem P G (n+1) "_law_otherwise" [.ref da,p.d,.tup (Γ.map Kd.d)] e (j9 Q).rt:=λI1 K1=>bo0 B ho ⋯ E i I1 λw b o I' K'=>c0 (q w b o I' (K1.trans K'));∎;rw[AV]
  by_cases W:p.kids.length=0
  ·rw[if_pos ⋯];∎;exact⟨by rw[ho];rfl,f I Kp.refl⟩
  rw[if_neg ⋯];refine⟨by rw[B.next];rfl,z9 B.toPB0 (m:=4) ∅ I λx e x0 x1 I1 K1=>?_⟩;rfl'
  by_cases t:x=0
  ·rw[if_pos t];∎;exact⟨by rw[ho];rfl,f I1 K1⟩
  rw[if_neg t];∎;rw[AV];refine⟨by rw[B.next];rfl,z9 B.toPB0 ⋯ I1 λr st2 r0 r1 I2 K2=>?_⟩;obtain⟨r,rfl⟩:=Ex r0;obtain⟨fr,c,g,U⟩:=p.one_kid r ⋯;have H:=U.d;rw[H];∎;have a:(fr++p.kids.map Pg.d).length=fr.length+p.kids.length:=by simp
  have k:((fr++p.kids.map Pg.d).length:Int)-((p.kids.map Pg.d).length:Nat)+(r:Nat)=((fr.length+r:Nat):Int):=by rw[a,AV];lia
  rw[k];have j:atI (fr++p.kids.map Pg.d) ((fr.length+r:Nat):Int)=AA c.d:=by rw[C8,An ⋯,DU,Ak,U.at_];rfl
  ∎;refine⟨by rw[u];rfl,c.d,j,?_⟩;have V:=Pg.hgt_kids p c (Az U.at_);refine A c ⋯ ⋯ (Pg.kn_kids p i c (Az U.at_)) I2 λw st3 O I3 K3=>?_;∎;have J:(((fr.length+r:Nat):Int)+1)=((fr.length+r+1:Nat):Int):=by lia
  have S:p.kids.length<=3:=by cases p<;>simp[Pg.kids]
  have D:=U.l2;have C:r<p.kids.length:=by lia
  obtain⟨z,L,K,y⟩:=U.w w;rw[J,af9,af9,ah1,ah1,bg9,b45,a];refine⟨⋯,C9 (by rw[DE,a];lia),⋯,C9 (by rw[Ap,DE,EG,a];simp only[FH];lia),?_⟩;have F:fr++(p.kids.set r w).map Pg.d=(fr++p.kids.map Pg.d).take (fr.length+r)++[w.d]++(fr++p.kids.map Pg.d).drop (fr.length+r+1):=by
   rw[List.set_eq_take_append_cons_drop,if_pos C,List.take_append,List.drop_append,show fr.take (fr.length+r)=fr from Cv ⋯,show fr.drop (fr.length+r+1)=[] from DY ⋯,DU,show fr.length+r+1-fr.length=r+1 by lia];simp
  rw[<-F,<-z];have cp:=V6 Pg.parts (Az U.at_);have M:=Pg.parts_kids p;have R:=O.parts;have N:=O.hgt;exact c0 (q (g w) st3 ⟨⋯,⋯,y i O.kn⟩ I3 ((K1.trans K2).trans K3))
end
abbrev Kd.mir:Kd->Kd
 |.non=>.non|.one=>.one
 |.eith a b=>.eith b.mir a.mir
 |.both a b=>.both a.mir b.mir
 |.way a b=>.way a.mir b.mir
theorem Kd.mir_cnt:∀k:Kd,k.mir.cnt=k.cnt
 |.non=>rfl
 |.one=>rfl
 |.eith a b=>by simp only[mir,cnt,mir_cnt a,mir_cnt b];lia
 |.both a b=>by simp only[mir,cnt,mir_cnt a,mir_cnt b]
 |.way a b=>by simp only[mir,cnt,mir_cnt a,mir_cnt b]
theorem Kd.mir_nest:∀k:Kd,k.mir.nest=k.nest
 |.non=>rfl
 |.one=>rfl
 |.eith a b=>by simp only[mir,nest,mir_nest a,mir_nest b];lia
 |.both a b=>by simp only[mir,nest,mir_nest a,mir_nest b]
 |.way a b=>by simp only[mir,nest,mir_nest a,mir_nest b]
theorem Kd.mir_bd:∀{k:Kd},k.bd m->k.mir.bd m
 |.non,h=>h
 |.one,h=>h
 |.eith a b,h=>⟨mir_bd h.2.1,mir_bd h.1,by rw[mir_cnt,mir_cnt];have:=h.2.2;lia⟩
 |.both a b,h=>⟨mir_bd h.1,mir_bd h.2.1,by rw[mir_cnt,mir_cnt];exact h.2.2⟩
 |.way a b,h=>⟨mir_bd h.1,mir_bd h.2.1,by rw[mir_cnt,mir_cnt];exact h.2.2⟩
theorem Kd.mir_good:∀{k:Kd},k.good->k.mir.good
 |.one,h=>h
 |.eith a b,h=>by
  rcases h with h|⟨rfl,h⟩|⟨h,rfl⟩
  ·exact .inl ⟨mir_good h.2,mir_good h.1⟩
  ·exact .inr (.inr ⟨mir_good h,rfl⟩)
  ·exact .inr (.inl ⟨rfl,mir_good h⟩)
 |.both a b,h=>⟨mir_good h.1,mir_good h.2⟩
 |.way a b,h=>⟨h.1.elim (λh=>.inl (mir_good h)) λh=>.inr (by rw[h];rfl),mir_good h.2.1,by rw[mir_cnt];exact h.2.2⟩
section
variable (hm:P "_law_mirror"=AA V1)
include hm
def bs4:∀(m:Nat)(k:Kd){n:Nat}{st:Sto}{Q:DK},k.nest<=m->m+2<=n->Q k.mir.d st->sem P G n "_law_mirror" [k.d] st Q:=by
 intro m
 induction m with
 |zero=>
  intro k n st Q a f q;obtain⟨n,rfl⟩:∃m,n=m+1:=⟨n-1,⋯⟩;refine i8 hm rfl [AA k.d,AE,AE] rfl ?_;cases k<;>first|(simp only[Kd.nest]at a;lia)|skip
  all_goals
   simp only[Kd.d];(iterate 2 ∎);exact c0 q
 |succ m e=>
  intro k n st Q a f q;obtain⟨n,rfl⟩:∃m,n=m+1:=⟨n-1,⋯⟩;refine i8 hm rfl [AA k.d,AE,AE] rfl ?_;cases k
  case non=>
   simp only[Kd.d];(iterate 2 ∎);exact c0 q
  case one=>
   simp only[Kd.d];(iterate 2 ∎);exact c0 q
  all_goals
   simp only[Kd.nest]at a;simp only[Kd.d];(iterate 2 ∎);refine⟨by rw[hm];rfl,e _ ⋯ ⋯ ?_⟩;∎;refine⟨by rw[hm];rfl,e _ ⋯ ⋯ ?_⟩;(iterate 2 ∎);exact c0 q
end
section
variable (B:PB P) (hm:P "_law_mirror"=AA V1) (he:P "_law_exchanged"=AA ad0) 
include B hm he
def bo1(e:50<=n)(f:Γ.length<=700)(I:o5 st da)(q:∀(u v:Pg)c a,u.up<=130->v.up<=130->u.hgt<=17->v.hgt<=17->u.kn 6->v.kn 6->o5 a da->a c=AA (.lst [u.d,v.d])->Kp [da] st a->Q (.ref c) a):sem P G n "_law_exchanged" [.ref da,.tup (Γ.map Kd.d)] st Q:=by
 obtain⟨n,rfl⟩:∃m,n=m+2:=⟨n-2,⋯⟩;refine i8 he rfl [AA (.ref da),AA (.tup (Γ.map Kd.d)),AE,AE,AE,AE,AE,AE,AE] rfl ?_;∎;refine⟨by rw[B.kind];rfl,N5 B.toPB0 (most:=9) ∅ ∅ 2 ⋯ I λk st1 gk bk nk I1 K1=>?_⟩;have nm:=Kd.mir_nest k;∎;refine⟨by rw[hm];rfl,bs4 hm 2 k nk ⋯ ?_⟩;∎;refine⟨by rw[B.program];rfl,by rw[B.kind];rfl,N5 B.toPB0 (most:=4) ∅ ∅ 1 ⋯ I1 λk2 st2 gk2 bk2 nk2 I2 K2=>?_⟩;rw[L5];refine⟨C9 (by simp only[AV];lia),Q8 B ⋯ ⋯ I2 gk2 (Kd.bd_mono ∅ bk2) ⋯ (by simp only[AY];lia) λw1 st3 _ h1 p1 m1 _ _ I3 K3=>?_⟩;∎;refine⟨by rw[B.program];rfl,Q8 B ⋯ ⋯ I3 (Kd.mir_good gk) (Kd.bd_mono ∅ (Kd.mir_bd bk)) ⋯ ⋯ λw2 st4 _ h2 p2 m2 _ _ I4 K4=>?_⟩;∎;refine⟨by rw[B.program];rfl,Q8 B (k:=.eith .one .one) ⋯ ⋯ I4 (.inl ⟨trivial,trivial⟩) ⟨show 1<=100 by decide,show 1<=100 by decide,show 1+1<=100 by decide⟩ ∅ ⋯ λw3 st5 _ h3 p3 m3 _ _ I5 K5=>?_⟩;∎;rw[show [D.tup [.str "one"]]++Γ.map Kd.d=(Kd.one::Γ).map Kd.d from rfl];refine⟨by rw[B.program];rfl,C9 (by simp only[AV];lia),Q8 B ⋯ ⋯ I5 gk (Kd.bd_mono ∅ bk) ⋯ (by simp only[AY];lia) λw4 st6 _ h4 p4 m4 _ _ I6 K6=>?_⟩;∎;rw[show [D.tup [.str "one"]]++Γ.map Kd.d=(Kd.one::Γ).map Kd.d from rfl];refine⟨by rw[B.program];rfl,C9 (by simp only[AV];lia),Q8 B ⋯ ⋯ I6 (Kd.mir_good gk) (Kd.bd_mono ∅ (Kd.mir_bd bk)) ⋯ (by simp only[AY];lia) λw5 st7 _ h5 p5 m5 _ _ I7 K7=>?_⟩;∎;intro c b;exact c0 (q (.give (.way k w1) w2) (.case w3 w4 w5) c _ (by have:=w1.up_le;have:=w2.up_le;simp only[Pg.up];lia) (by have:=w3.up_le;have:=w4.up_le;have:=w5.up_le;simp only[Pg.up];lia) (by simp only[Pg.hgt];lia) (by simp only[Pg.hgt];lia) ⟨⟨⋯,m1⟩,m2⟩ ⟨m3,m4,m5⟩ (I7.new b) f7 (((((((K1.trans K2).trans K3).trans K4).trans K5).trans K6).trans K7).new b))
end
abbrev Q4:List Str:=[("NoKind":Str),("NoStep":Str),("NoText":Str)]
abbrev G9:List Str:=[("NoKind":Str),("NoStep":Str),("NoText":Str),("EvenError":Str),("ValueError":Str)]
def kx1:C6 "NoKind" "NoKind"=AC:=by decide+kernel
def kx2:C6 "NoKind" "ValueError"=AC:=by decide+kernel
def kx3:C6 "NoKind" "NoStep"=AG:=by decide+kernel
def kx4:C6 "NoKind" "NoText"=AG:=by decide+kernel
section
variable (T:PNo P G) (hx:G.cls "!ix"=G9) (hxk:∀k∈Q4,k∈G.cls "!xk") 
include T hx hxk
def bd3(r:P "_law_told"=AA ad9)(s:30<=n)(j:p.parts<=2000)(g:∀k∈Γ,k.nest<=6)(l:Γ.length<2000)(o:p.kn 6)(q:∀b,Kp [] st b->Q (oD (p.kind Γ)) b):sem P G n "_law_told" [p.d,.tup (Γ.map Kd.d)] st Q:=by
 obtain⟨n,rfl⟩:∃m,n=m+1:=⟨n-1,⋯⟩;have f:G.cls "!ix"≠[]:=by rw[hx];exact nofun
 have i:∀c∈G9,c∈(Zg P G n).C "!ix":=λc hc=>by show c∈G.cls "!ix";rw[hx];exact hc
 refine i8 r rfl [AA p.d,AA (.tup (Γ.map Kd.d)),AE,AE,AE] rfl ?_;(iterate 2 ∎);refine bl0 ?_;refine⟨f,rfl,by show(P "kind_of").isSome=AC;rw[T.ko];rfl,p.d,.tup (Γ.map Kd.d),rfl,rfl,?_⟩;cases e:p.kind Γ with
 |some k=>
  rw[e]at q;refine .inl (show J0 AG P G n "kind_of" _ _ _ from a07 T f ⋯ j g l (λh=>by rw[e]at h;cases h) o λk' hk' b _=>?_);rw[e]at hk';cases hk';(iterate 2 ∎);exact .inl (c0 (q st Kp.refl))
 |none=>
  rw[e]at q;refine .inr ⟨show J0 AC P G n "kind_of" _ _ _ from a07 T f ⋯ j g l (λ_=>rfl) o λk' hk' b _=>(by rw[e]at hk';cases hk'),λa ha=>?_⟩;∎;refine .inr ⟨nofun,?_⟩;∎;refine⟨i _ (by simp[G9]),a,"NoKind",rfl,.inl f7,hxk _ (by simp[Q4]),?_⟩;refine⟨i _ (by simp[G9]),a,"NoKind",rfl,.inl f7,hxk _ (by simp[Q4]),?_⟩;∎;refine⟨i _ (by simp[G9]),a,"NoKind",rfl,.inl f7,hxk _ (by simp[Q4]),?_⟩;refine⟨i _ (by simp[G9]),a,"NoKind",rfl,.inl f7,hxk _ (by simp[Q4]),?_⟩;exact c0 (q _ (Kp.refl.new ha))
theorem bv7(B:PB P)(hm1:("NoKind":Str)∈G.cls "!mx")(hm2:("NoText":Str)∈G.cls "!mx")(hns:G.cls "!ns"≠[])(hlaw:(P "law").isSome=AC)(he:P "_law_errors"=AA ad1)(hn:10<=n)(I:o5 st da)(q:∀st',Q (.bl AC) st'):sem P G n "_law_errors" [.ref da] st Q:=by
 obtain⟨n,rfl⟩:∃m,n=m+3:=⟨n-3,⋯⟩;have xm:∀c∈G9,c∈(Zg P G (n+2)).C "!ix":=λc hc=>by show c∈G.cls "!ix";rw[hx];exact hc
 refine i8 he rfl [AA (.ref da),AE,AE,AE,AE] rfl ?_;∎;refine⟨by rw[B.next];rfl,⟨∅,∅⟩,z9 B.toPB0 ∅ I λr st1 _ _ _ _=>?_⟩;∎;refine⟨hm1,λp1 f1=>⟨hns,by rw[hlaw];rfl,λp2 f2=>⟨hm2,λp3 f3 la fl=>?_⟩⟩⟩;have e1:=j8 (u:=.lst [.ref p1,.ref p2,.ref p3]) (j8 (u:=.exc "NoText") (j8 (u:=.exa "NoStep" r) (f7 (st:=st1) (a:=p1) (o:=.exc "NoKind")) f2) f3) fl;have e2:=j8 (u:=.lst [.ref p1,.ref p2,.ref p3]) (j8 (u:=.exc "NoText") (f7 (st:=b0 st1 p1 (.exc "NoKind")) (a:=p2) (o:=.exa "NoStep" r)) f3) fl;have e3:=j8 (u:=.lst [.ref p1,.ref p2,.ref p3]) (f7 (st:=b0 (b0 st1 p1 (.exc "NoKind")) p2 (.exa "NoStep" r)) (a:=p3) (o:=.exc "NoText")) fl;have e4:=f7 (st:=b0 (b0 (b0 st1 p1 (.exc "NoKind")) p2 (.exa "NoStep" r)) p3 (.exc "NoText")) (a:=la) (o:=.lst [.ref p1,.ref p2,.ref p3]);revert e1 e2 e3 e4;generalize b0 (b0 (b0 (b0 st1 p1 (.exc "NoKind")) p2 (.exa "NoStep" r)) p3 (.exc "NoText")) la (.lst [.ref p1,.ref p2,.ref p3])=s4;intro e1 e2 e3 e4;∎;refine⟨_,.inl e4,?_⟩;have nb:∀{b:Bool}{Q:DK},Q (.bl AG) s4->p7 .NotEq (.bl b) (.bl b) s4 Q:=λ{b Q}h=>by
  exact⟨rfl,rfl,by cases b<;>decide,by rw[show deq (.bl b) (.bl b)=AC by cases b<;>rfl];exact h⟩
 have turn:∀(i:Int)(pa:AI)(k:Str)(F:DEnds),exK s4 pa k->k∈G.cls "!xk"->C6 k "NoKind"=AB (i=0)->C6 k "NoStep"=AB (i=1)->C6 k "NoText"=AB (i=2)->C6 k "EvenError"=AC->F.nx [AA (.ref da),AA (.int r),AA (.ref la),AA (.int i),AA (.ref pa)] s4 ->
   i5 (Zg P G (n+2)) (.cons (.iff (.or (.cmp .NotEq (.isX "NoKind" (.v 4)) (.cmp .Eq (.v 3) (.int 0))) (.cmp .NotEq (.isX "NoStep" (.v 4)) (.cmp .Eq (.v 3) (.int 1)))) (.cons (.ret (.bl AG)) .nil) .nil) (.cons (.iff (.cmp .NotEq (.isX "NoText" (.v 4)) (.cmp .Eq (.v 3) (.int 2))) (.cons (.ret (.bl AG)) .nil) .nil) (.cons (.iff (.not (.isX "EvenError" (.v 4))) (.cons (.ret (.bl AG)) .nil) .nil) .nil))) F [AA (.ref da),AA (.int r),AA (.ref la),AA (.int i),AA (.ref pa)] s4:=by
  intro i pa k F ex hk k1 k2 k3 k4 h;∎;refine⟨xm _ (by simp[G9]),pa,k,rfl,ex,hk,?_⟩;rw[k1];refine nb ?_;rfl';refine⟨xm _ (by simp[G9]),pa,k,rfl,ex,hk,?_⟩;rw[k2];refine nb ?_;rfl';∎;refine⟨xm _ (by simp[G9]),pa,k,rfl,ex,hk,?_⟩;rw[k3];refine nb ?_;rfl';∎;refine⟨xm _ (by simp[G9]),pa,k,rfl,ex,hk,?_⟩;rw[k4];exact h
 refine⟨.inl e4,_,rfl,rfl,turn 0 p1 "NoKind" _ (.inl e1) (hxk _ (by simp[Q4])) (rfl) (rfl) (rfl) (rfl) ?_⟩;refine⟨.inl e4,_,rfl,rfl,turn 1 p2 "NoStep" _ (.inr ⟨_,e2⟩) (hxk _ (by simp[Q4])) (rfl) (rfl) (rfl) (rfl) ?_⟩;refine⟨.inl e4,_,rfl,rfl,turn 2 p3 "NoText" _ (.inl e3) (hxk _ (by simp[Q4])) (rfl) (rfl) (rfl) (rfl) ?_⟩;refine⟨.inl e4,?_⟩;∎;rw[l6 (.inl e4)];refine⟨hns,_,rfl,p2,r,rfl,e2,?_⟩;rw[decide_eq_true rfl];exact c0 (q _)
def cn6(B:PB P)(L:P "_law_kind_of"=AA M7)(V:P "_law_kind_of_case"=AA ac8)(S:P "_law_otherwise"=AA ac9)(K:P "_law_spoilt"=AA ad2)(t:P "_law_mirror"=AA V1)(i:P "_law_exchanged"=AA ad0)(j:P "_law_told"=AA ad9)(M:P "_law_errors"=AA ad1)
  (C:("NoKind":Str)∈G.cls "!mx") (A:("NoText":Str)∈G.cls "!mx") (r:G.cls "!ns"≠[]) (f:P "law"=AA ae9) {a:AI} {ns:List Int} (hn:90<=n) (U:ns.length<=63) (h:rdS st a (ns.map D.int)):sem P G n "law" [.ref a] st λd _=>d=.bl AC:=by
 obtain⟨n,rfl⟩:∃m,n=m+2:=⟨n-2,⋯⟩;refine i8 f rfl [AA (.ref a),AE,AE,AE,AE,AE,AE,AE] rfl ?_;∎;refine⟨by rw[B.deck];rfl,cb6 B.toPB0 ⋯ U h λda st1 I1 _=>?_⟩;∎;refine⟨by rw[B.names];rfl,b39 B (most:=3) (lines:=64) ⋯ ∅ ∅ ∅ I1 λΓ st2 hΓ hkΓ hr I2 _=>?_⟩;∎;refine⟨by rw[B.kind];rfl,N5 B.toPB0 (most:=16) ∅ ∅ 3 ⋯ I2 λk st3 gk bk nk3 I3 _=>?_⟩;∎;refine⟨by rw[B.program];rfl,by rw[B.next];rfl,z9 B.toPB0 (m:=20) ∅ I3 λr4 st4 r40 r41 I4 _=>?_⟩;refine Q8 B ⋯ ⋯ I4 gk (Kd.bd_mono ∅ bk) ⋯ ⋯ λp st5 kp hp pp mp hp60 _ I5 _=>?_;have R:=(hp60 ⋯).1;have c:∀y∈Γ,y.nest<=6:=λy hy=>by have:=(hkΓ y hy).2.2;lia
 have b:∀(w:Pg){o:Ss}{e:Sto}{F:DEnds}{l E:Option D},w.up<=142->w.hgt<=31->w.kn 6->o5 e da->(∀y s',o5 s' da->Kp [] e s'->i5 (Zg P G (n+1)) o F [AA (.ref a),AA (.ref da),AA (.tup (Γ.map Kd.d)),AA k.d,AA p.d,l,AA w.d,y] s') ->
   i5 (Zg P G (n+1)) (.cons (.set 7 (.call "_law_kind_of" (.cons (.v 6) (.cons (.v 2) .nil)))) (.cons (.iff (.and (.cmp .LtE (.call "_law_parts" (.cons (.v 6) .nil)) (.int 60)) (.cmp .NotEq (.call "_law_told" (.cons (.v 6) (.cons (.v 2) .nil))) (.v 7))) (.cons (.ret (.bl AG)) .nil) .nil) o)) F [AA (.ref a),AA (.ref da),AA (.tup (Γ.map Kd.d)),AA k.d,AA p.d,l,AA w.d,E] e:=by
  intro w o e F l E X J H Q q;have N:Ft 6 w Γ:=⟨c,AX _,H,⋯⟩;∎;refine⟨by rw[L];rfl,co7 B L V 31 w J ⋯ ⋯ N ⋯ λs1 K1=>?_⟩;∎;refine⟨by rw[B.parts];rfl,a86 B 31 w J ⋯ λs2 K2=>?_⟩;rfl'
  by_cases W:w.parts<=60
  ·rw[if_pos ⋯];refine⟨by rw[j];rfl,bd3 T hx hxk j ⋯ ⋯ c ⋯ H λs3 K3=>?_⟩;rw[ah7,bi4];refine⟨ag5 _,ag5 _,Ax (GM _ _) (Ax N.dp ∅),?_⟩;simp only[decide_true];rfl';exact q _ s3 (((Q.keep K1 ∎).keep K2 ∎).keep K3 ∎) ((K1.trans K2).trans K3)
  ·rw[if_neg ⋯];exact q _ s2 ((Q.keep K1 ∎).keep K2 ∎) (K1.trans K2)
 ∎;refine⟨∅,?_⟩;refine L4 (λl env s=>o5 s da/\∃x y z:Option D,env=[AA (.ref a),AA (.ref da),AA (.tup (Γ.map Kd.d)),AA k.d,AA p.d,x,y,z]) ?_ ?_ _ _ _ ⟨I5,AE,AE,AE,rfl⟩
 rotate_left
 ·rintro d ds env s ih ⟨I,x,y,z,rfl⟩;rfl';∎;refine⟨by rw[K];rfl,bu6 B S K ⋯ 15 p hp ⋯ mp I λw s1 O I1 K1=>?_⟩;have o1:=O.parts;have Z:=O.hgt;have Y:=w.up_le;refine b w ⋯ ⋯ O.kn I1 λy s2 I2 K2=>?_;∎;refine⟨by rw[j];rfl,bd3 T hx hxk j ⋯ ⋯ c ⋯ mp λs3 K3=>?_⟩;rw[kp];simp only[oD];rw[ah7,G4];refine⟨y3 _,y3 _,Ax (GM _ _) (by rw[C5];lia),?_⟩;rfl';exact ih _ _ ⟨I2.keep K3 ∎,_,_,_,rfl⟩
 rintro env s6 ⟨I6,x,y,z,rfl⟩;∎;refine⟨by rw[i];rfl,bo1 B t i ⋯ ⋯ I6 λu v xa s7 u1 v1 u2 v2 u3 v3 I7 hxa K7=>?_⟩;rfl';refine⟨_,.inl hxa,?_⟩;have fin:∀{x y z:Option D}{s':Sto},o5 s' da->i5 (Zg P G (n+1)) (.cons (.ret (.call "_law_errors" (.cons (.v 1) .nil))) .nil) (j9 λd _=>d=.bl AC) [AA (.ref a),AA (.ref da),AA (.tup (Γ.map Kd.d)),AA k.d,AA p.d,x,y,z] s':=λI=>by
  ∎;exact⟨by rw[M];rfl,bv7 T hx hxk B C A r (by rw[f];rfl) M ⋯ I λ_=>c0 rfl⟩
 refine⟨.inl hxa,?_⟩;refine b u ⋯ ⋯ u3 I7 λy s8 I8 K8=>?_;have g:=K8.at' hxa ∎;refine⟨.inl g,?_⟩;refine b v ⋯ ⋯ v3 I8 λy s9 I9 K9=>?_;exact⟨.inl (K9.at' g ∎),fin I9⟩
end
def dc5:PB Y9:=⟨⟨rfl,rfl,rfl,rfl,rfl,rfl⟩,rfl,rfl,rfl,rfl,rfl,rfl,rfl,rfl,rfl⟩
def dc8:PNo Y9 v0:=by
 repeat' (first|rfl|(intro z;cases z)|constructor)
def bt0(a:AI)(ns:List Int)(h:ns.length<=63):sem Y9 v0 100 "law" [.ref a] (st0 a ns) λd _=>d=.bl AC:=
 cn6 dc8 rfl (λk hk=>hk) dc5 rfl rfl rfl rfl rfl rfl rfl rfl (by decide+kernel) (by decide+kernel) (by decide+kernel) rfl ∅ h (.inr (by unfold st0;rw[if_pos rfl]))
end
abbrev top(i:Nat):BP:=PySem.Challenge.pw_evenkinds_k22_programs_without_kind.main.body.getD i (.Pass ⟨0,0,0,0⟩)
abbrev mth(i k:Nat):BP:=match top i with|.ClassDef _ _ _ b _ _ _ _ _ _ _=>b.getD k (.Pass ⟨0,0,0,0⟩)|_=>.Pass ⟨0,0,0,0⟩
def bm3:Stat0 (mth 17 2) Y0 ["self","kind","deep"]:=⟨⟨rfl,rfl,rfl,by decide+kernel,rfl,by decide+kernel,by decide+kernel⟩,rfl,rfl⟩
def dc1:NiT (mth 4 0):=⟨⟨_,_,_,_,_,_,_,_,_,_,rfl,rfl⟩,⟨rfl,rfl,rfl,by decide+kernel,rfl,by decide+kernel,by decide+kernel⟩,rfl,rfl,rfl⟩
def ck2{pr:AZ}{w:At}{K:AM}{h:Au}{mg:Str->Option AF}{ts:List AI}(X:K.In h)(G:h.Ns AK mg){g0:AI}{g1:AI}{g2:AI}{ku0:AF}{C0:AI}{C1:AI}{XK XS XT XE XF:AI}
  (a0:FnA K ts AG "made_of_parts" (top 9))
  (a1:FnA K ts AG "order_of_few" (top 10))
  (a2:FnA K ts AG "taken" (top 12))
  (a3:FnA K ts AG "tuples_in" (top 16))
  (a4:FnA K ts AG "inner" (top 21))
  (a5:FnA K ts AG "names_more" (top 22))
  (a6:FnA K ts AC "noded" (top 24))
  (a7:FnA K ts AG "folded" (top 27))
  (a8:FnA K ts AG "kind_of" (top 29))
  (a9:FnA K ts AG "shelved_names" (top 30))
  (a10:FnA K ts AG "shelved_kind" (top 31))
  (a11:FnA K ts AC "kind_of_node" (top 32))
  (a12:FnA K ts AG "kind_by_parts" (top 33))
  (a13:FnA K ts AG "new_name" (top 34))
  (a14:FnA K ts AG "halves_of" (top 35))
  (a15:FnA K ts AG "kind_of_name" (top 36))
  (a16:FnA K ts AG "kind_of_star" (top 37))
  (a17:FnA K ts AG "kind_of_pair" (top 38))
  (a18:FnA K ts AG "kind_of_first" (top 39))
  (a19:FnA K ts AG "kind_of_second" (top 40))
  (a20:FnA K ts AG "kind_of_left" (top 41))
  (a21:FnA K ts AG "kind_of_right" (top 42))
  (a22:FnA K ts AG "kind_of_case" (top 43))
  (a23:FnA K ts AG "kind_of_way" (top 44))
  (a24:FnA K ts AG "kind_of_give" (top 45))
  (a25:FnA K ts AG "kind_of_let" (top 46))
  (a26:FnA K ts AG "kind_of_never" (top 47))
  (a27:FnA K ts AG "_law_mixed" (top 50))
  (a28:FnA K ts AG "_law_deck" (top 51))
  (a29:FnA K ts AG "_law_next" (top 52))
  (a30:FnA K ts AG "_law_power" (top 53))
  (a31:FnA K ts AG "_law_count" (top 54))
  (a32:FnA K ts AG "_law_kind" (top 55))
  (a33:FnA K ts AG "_law_least" (top 56))
  (a34:FnA K ts AG "_law_made" (top 57))
  (a35:FnA K ts AG "_law_nest" (top 58))
  (a36:FnA K ts AG "_law_asked" (top 59))
  (a37:FnA K ts AG "_law_grown" (top 60))
  (a38:FnA K ts AG "_law_inner" (top 61))
  (a39:FnA K ts AG "_law_parts" (top 62))
  (a40:FnA K ts AG "_law_program" (top 63))
  (a41:FnA K ts AG "_law_names" (top 64))
  (a42:FnA K ts AG "_law_kind_of" (top 65))
  (a43:FnA K ts AG "_law_kind_of_case" (top 66))
  (a44:FnA K ts AG "_law_otherwise" (top 67))
  (a45:FnA K ts AG "_law_spoilt" (top 68))
  (a46:FnA K ts AG "_law_mirror" (top 69))
  (a47:FnA K ts AG "_law_exchanged" (top 70))
  (a48:FnA K ts AG "_law_told" (top 71))
  (a49:FnA K ts AG "_law_errors" (top 72))
  (a50:FnA K ts AG "law" (top 73))
  (bb:∀b∈V5,Ae K AK b=AA AE)
  (ga0:Ae K AK "INNER_FROM"=AA (AA (.ref g0))) (gt0:(letI:Tbs:=⟨ts,mFB,(v0.cls "!kt").isEmpty⟩;ab0 K g0 (v0.tab "INNER_FROM"))=AC)
  (ga1:Ae K AK "UNDER_ONE_MORE"=AA (AA (.ref g1))) (gt1:(letI:Tbs:=⟨ts,mFB,(v0.cls "!kt").isEmpty⟩;ab0 K g1 (v0.tab "UNDER_ONE_MORE"))=AC)
  (ga2:Ae K AK "BY_WORD"=AA (AA (.ref g2))) (gt2:(letI:Tbs:=⟨ts,mFB,(v0.cls "!kt").isEmpty⟩;ab0 K g2 (v0.tab "BY_WORD"))=AC)
  (kc0:Ae K AK "FEW"=AA (AA ku0)) (kv0:(letI:Tbs:=⟨ts,mFB,(v0.cls "!kt").isEmpty⟩;Q2 K (.int 2000) ku0)=AC)
  (kx0:Ae K AK "!kt"=AA AE)
  (kz0:Ae K AK "!ix"=AA AE)
  (kz1:Ae K AK "!mx"=AA AE)
  (kz2:Ae K AK "!xk"=AA AE)
  (kz3:Ae K AK "!ns"=AA AE)
  (ky0:Ae K AK "!Shelf.laid_kind"=AA AE)
  (ca0:ClA K "Shelf" C0)
  (ca1:ClA K "Node" C1) (cf0_0:Av K (.ref C0) "numbers"=AA AE) (cf0_1:Av K (.ref C0) "stored"=AA AE) (cf0_2:Av K (.ref C0) "parts"=AA AE) (cf0_3:Av K (.ref C0) "waiting"=AA AE) (cf1_0:Av K (.ref C1) "program"=AA AE) (cf1_1:Av K (.ref C1) "inside"=AA AE) (cf1_2:Av K (.ref C1) "number"=AA AE) (cf1_3:Av K (.ref C1) "holders"=AA AE) (cf1_4:Av K (.ref C1) "ways"=AA AE) (cf1_5:Av K (.ref C1) "used"=AA AE) (cf1_6:Av K (.ref C1) "kind"=AA AE)
  (xn:Ae K AK "NoStep"=AA (AA (.ref XS))) (xf:Av K (.ref XS) "__init__"=AA (AA (.ref XF))) (xa:XaA K XK XS XT XE XF (mth 4 0))
  (m0:MtA K ts AG "Shelf" C0 "__init__" (mth 17 0))
  (m1:MtA K ts AC "Shelf" C0 "laid" (mth 17 1))
  (m2:MtD K "Shelf" C0 "laid_kind" (mth 17 2) 3)
  (m3:MtA K ts AG "Shelf" C0 "built" (mth 17 3))
  (m4:MtA K ts AG "Shelf" C0 "numbered" (mth 17 4))
  (m5:MtA K ts AG "Shelf" C0 "put_by" (mth 17 5))
  (m6:MtA K ts AG "Shelf" C0 "taken_up" (mth 17 6))
  (m7:MtA K ts AG "Shelf" C0 "tuple_at" (mth 17 7))
  (m8:MtA K ts AG "Shelf" C0 "word_at" (mth 17 8))
  (m9:MtA K ts AG "Shelf" C0 "within" (mth 17 9))
  (m10:MtA K ts AG "Node" C1 "__init__" (mth 23 0)) (nl:V9 K=AC) (nt:JO K=AC) (tso:at5 K ts=AC) :
  (letI:Tbs:=⟨ts,mFB,(v0.cls "!kt").isEmpty⟩;AllOk pr w K mg Y9 v0)/\V9 K=AC/\JO K=AC/\∀P∈ts,∃c,CA K c P=AC:=by
 letI:Tbs:=⟨ts,mFB,(v0.cls "!kt").isEmpty⟩
 refine⟨⟨λf d hf hi=>?_,λf d hf hi=>?_,λf c Ca hn hf=>?_,λb hb=>MH X G (bb b hb),λg hg=>?_,λg i hg=>?_,λc hc=>?_,rfl,λ_=>⟨⟨_,_,xa.nk,DG X G xa.ne,xa.em⟩,_,xa.nk,DG X G xa.nk,xa.ek⟩,by rw[(by decide+kernel:v0.cls "!ix"=[("NoKind":Str),("NoStep":Str),("NoText":Str),("EvenError":Str),("ValueError":Str)]),(by decide+kernel:v0.cls "!xk"=[("NoKind":Str),("NoStep":Str),("NoText":Str)])];exact xa.ixc X G,by rw[(by decide+kernel:v0.cls "!mx"=[("NoKind":Str),("NoText":Str)])];exact xa.mxc X G,λ_=>xa.nsa X G dc1 (λ_ _ _ _ _ _=>by(repeat refine bdS λ_=>?_);exact bdZ rfl)⟩,nl,nt,ce2 tso⟩
 ·
  refine(?_:∀f d,(f,d)∈Y8->isM f=AG->DefOk K mg (z8 v0.cls f) f d) f d (PySem.mem_of_lookup hf) hi;unfold Y8
  iterate 11 refine j6 (λhi=>absurd hi (by decide+kernel)) ?_
  refine j6 (λ_=>a0.ok X G) ?_;refine j6 (λ_=>a1.ok X G) ?_;refine j6 (λ_=>a2.ok X G) ?_;refine j6 (λ_=>a3.ok X G) ?_;refine j6 (λ_=>a4.ok X G) ?_;refine j6 (λ_=>a5.ok X G) ?_;refine j6 (λ_=>a6.ok X G) ?_;refine j6 (λ_=>a7.ok X G) ?_;refine j6 (λ_=>a8.ok X G) ?_;refine j6 (λ_=>a9.ok X G) ?_;refine j6 (λ_=>a10.ok X G) ?_;refine j6 (λ_=>a11.ok X G) ?_;refine j6 (λ_=>a12.ok X G) ?_;refine j6 (λ_=>a13.ok X G) ?_;refine j6 (λ_=>a14.ok X G) ?_;refine j6 (λ_=>a15.ok X G) ?_;refine j6 (λ_=>a16.ok X G) ?_;refine j6 (λ_=>a17.ok X G) ?_;refine j6 (λ_=>a18.ok X G) ?_;refine j6 (λ_=>a19.ok X G) ?_;refine j6 (λ_=>a20.ok X G) ?_;refine j6 (λ_=>a21.ok X G) ?_;refine j6 (λ_=>a22.ok X G) ?_;refine j6 (λ_=>a23.ok X G) ?_;refine j6 (λ_=>a24.ok X G) ?_;refine j6 (λ_=>a25.ok X G) ?_;refine j6 (λ_=>a26.ok X G) ?_;refine j6 (λ_=>a27.ok X G) ?_;refine j6 (λ_=>a28.ok X G) ?_;refine j6 (λ_=>a29.ok X G) ?_;refine j6 (λ_=>a30.ok X G) ?_;refine j6 (λ_=>a31.ok X G) ?_;refine j6 (λ_=>a32.ok X G) ?_;refine j6 (λ_=>a33.ok X G) ?_;refine j6 (λ_=>a34.ok X G) ?_;refine j6 (λ_=>a35.ok X G) ?_;refine j6 (λ_=>a36.ok X G) ?_;refine j6 (λ_=>a37.ok X G) ?_;refine j6 (λ_=>a38.ok X G) ?_;refine j6 (λ_=>a39.ok X G) ?_;refine j6 (λ_=>a40.ok X G) ?_;refine j6 (λ_=>a41.ok X G) ?_;refine j6 (λ_=>a42.ok X G) ?_;refine j6 (λ_=>a43.ok X G) ?_;refine j6 (λ_=>a44.ok X G) ?_;refine j6 (λ_=>a45.ok X G) ?_;refine j6 (λ_=>a46.ok X G) ?_;refine j6 (λ_=>a47.ok X G) ?_;refine j6 (λ_=>a48.ok X G) ?_;refine j6 (λ_=>a49.ok X G) ?_;refine j6 (λ_=>a50.ok X G) ?_;exact bi8
 ·
  refine(?_:∀f d,(f,d)∈Y8->isM f=AC->∃c m,f=c9 c m/\isM c=AG/\isM m=AG/\MthOk K mg (z8 v0.cls (c9 c m)) c m d) f d (PySem.mem_of_lookup hf) hi;unfold Y8;refine j6 (λ_=>m0.ok ca0 X G) ?_;refine j6 (λ_=>m1.ok ca0 X G) ?_;refine j6 (λ_=>m2.ok ca0 X G bm3 (λ_ _ _ _ _ _ _ _ _ _ _ hT hS=>⟨bdS λ_=>bdS λ_=>bdS λ_=>bdZ (IE rfl hT hS rfl rfl),λus hl=>match us,hl with|[_,_],_=>IE rfl hT hS rfl rfl⟩)) ?_;refine j6 (λ_=>m3.ok ca0 X G) ?_;refine j6 (λ_=>m4.ok ca0 X G) ?_;refine j6 (λ_=>m5.ok ca0 X G) ?_;refine j6 (λ_=>m6.ok ca0 X G) ?_;refine j6 (λ_=>m7.ok ca0 X G) ?_;refine j6 (λ_=>m8.ok ca0 X G) ?_;refine j6 (λ_=>m9.ok ca0 X G) ?_;refine j6 (λ_=>m10.ok ca1 X G) ?_
  iterate 51 refine j6 (λhi=>absurd hi (by decide+kernel)) ?_
  exact bi8
 ·
  unfold v0 at hf;simp only at hf
  by_cases hck:c="!kt"
  ·subst hck;rw[kx0]at hn;cases hn
  rw[if_neg hck]at hf
  by_cases hz0:c="!ix"
  ·subst hz0;rw[kz0]at hn;cases hn
  rw[if_neg hz0]at hf
  by_cases hz1:c="!mx"
  ·subst hz1;rw[kz1]at hn;cases hn
  rw[if_neg hz1]at hf
  by_cases hz2:c="!xk"
  ·subst hz2;rw[kz2]at hn;cases hn
  rw[if_neg hz2]at hf
  by_cases hz3:c="!ns"
  ·subst hz3;rw[kz3]at hn;cases hn
  rw[if_neg hz3]at hf
  by_cases hdk0:c="!Shelf.laid_kind"
  ·subst hdk0;rw[ky0]at hn;cases hn
  rw[if_neg hdk0]at hf
  by_cases hc0:c="Shelf"
  ·subst hc0;rw[ca0.a]at hn;cases hn;rw[if_pos rfl]at hf;simp only[AR,AW,or_false]at hf;refine⟨ca0.cl,?_⟩
   rcases hf with rfl|rfl|rfl|rfl
   ·exact cf0_0
   ·exact cf0_1
   ·exact cf0_2
   ·exact cf0_3
  rw[if_neg hc0]at hf
  by_cases hc1:c="Node"
  ·subst hc1;rw[ca1.a]at hn;cases hn;rw[if_pos rfl]at hf;simp only[AR,AW,or_false]at hf;refine⟨ca1.cl,?_⟩
   rcases hf with rfl|rfl|rfl|rfl|rfl|rfl|rfl
   ·exact cf1_0
   ·exact cf1_1
   ·exact cf1_2
   ·exact cf1_3
   ·exact cf1_4
   ·exact cf1_5
   ·exact cf1_6
  rw[if_neg hc1]at hf;exact absurd hf AW
 ·unfold v0 at hg ⊢;simp only at hg ⊢
  by_cases hg0:g="INNER_FROM"
  ·subst hg0;exact aq6 X G ga0 gt0
  rw[if_neg hg0]at hg
  by_cases hg1:g="UNDER_ONE_MORE"
  ·subst hg1;exact aq6 X G ga1 gt1
  rw[if_neg hg1]at hg
  by_cases hg2:g="BY_WORD"
  ·subst hg2;exact aq6 X G ga2 gt2
  rw[if_neg hg2]at hg;exact absurd rfl hg
 ·unfold v0 at hg;simp only at hg
  by_cases hg0:g="FEW"
  ·subst hg0;rw[if_pos rfl]at hg;cases hg;exact⟨_,DG X G kc0,kv0⟩
  rw[if_neg hg0]at hg;cases hg
 ·
  cases hc
end Ek
namespace PySem.W.Fast
local macro_rules|`(command|include $x*)=>do return Lean.mkNullNode (← x.mapM fun i=>Lean.MonadRef.withRef .missing do
 let n:Nat:=(i.getId.toString.toList.drop 1).foldl (fun n c=>n*36+(if c<':' then c.toNat-48 else c.toNat-87)) 0
 let j:=Lean.mkIdent (.mkSimple s!"tw{n}")
 `(command|theorem $j:ident:True:=⟨⟩))
include aozai2b8n2ngt aoy2kq01ciqkr a359nwmemxeg9r a13jiv9dnb4jj2 art5xn1mlbmrz a17ta2ywbd3onx a2njqsn3n5h0hy a2s1ntyz8emawb a1eyr8ijv346bw a2h2i7mqphlgbn aqkg620l751qj a36izoxw8e44ks a2x72lw39umwmx abv73a9s3bt7i a10it7vm8cevtl aem3wml4kk6rn ay0oj8zfx5238 a18gwd2sqf4crh a2g6a7i9hq5mw2 a33sh8xp3kwt0x asm65c8ihfev2 axmuzoi1etefg a2m5z0nn23xbox ab9kkdqjc652s a2siab65ma5tpn a2i3rl8fwxwjf2 a32iav2cwg9bz9 a2w9dswdq1x9en a2vzh1pwrvt5e a38ruql159rylx a3cg8u3mq8jpqc a2544b8r4tjqst a2jm6dtlvi2wgn a1c6y4x0d2g5x8 an5uv5lprbiil a37s6m8zlko9p5 a2vel4qu7p3kok a35c1isd1l6z20 a2v6k6tt1feo5z a19c3vrq69rsar a2zzj8xuua1cxv a1pcz49no7rbvw a2f6mww94fs8qn a6gl0gifhjgm7 a77s0tuwd1g29 a2lkz7xjnak8ei a2n5vz7binigoz a35yus8apuwl6j a3lbf2nh2neziu a2bc0rbnbni24p a2ut7w9aup1n5p a28w0ssmx4ncha a5l2u879rl32q a8aita1k5e95n a3jwg5mtwnu8gk a2mjnznucp1ec5 a1au9xhlgyplyf a31eoxv9l3dwyv a3cyu010tvejcd a3sfm4y9qqsx1l a2lkgxa9b0knyn a7vw61it0f6ci a35h6ey5v1p2vb a360kcmpwzp4gj a1g9dexgzyjobl a2b1dklizz4hz3 adwyw87qjj52a a3ylxo1moi0mg aj0mdo0259l6f a3u014b7c2liak a1zoz0grt1x8ux a4j47r6axfhjw a2f6bw3brabtlf a358h2srh5cvg a207tllugs9rur a2yxneo5htwrz8 a1rqfgj0potgy1 a2xd9djgvsz945 a1snwqyyd17tqu a1tlaldf319hp a2sb0a6qwoceth a39hbu5eh4lguu a3q3bw39nve2ha a3dh2ff7n3a8gm a1541ytg3knr32 a31tj5olj21f0u a3kwehawab7gsc a1fr5j3l2kkg49 a3jdenco349e73 a33lozh4wthpuf a86odazertc01 al8oiwejlbwrt aheewokrs43x5 agnckbsjjjtuy a31gbsi52ioin0 ahtk0yp0916ms a1kf8u7ybmpau8 ahoza7ob456yg a32ee44092nevt a1q2joyv4hv31y a3fozxb7ppkqvl auin4bu6qbzcs a2visc1gpa2g5z a3k9cn78h6umlj a11bi8w7pn613m arepwcu255zgd a3qwe820kii99e ahaj2vf7c9kvm a1z3gr60djbl8x a30aukzj8iww0d a129h4usgopseh a2nv3m72quev a3k5o7rotqx77e a1x39qk95ew6qz a2jvwpo73x5q67 a37tjfpsvp3r9j a25o22x86bqivf az58cje20mg5m a34mmyojknc5me a3ott5njsi4cqq ay4ypj43hwxdg a2xiuys7jsjwfb a1dkc6j9sbl3j8 a1ta4jvba70w03 a3onatqjv90lna a1fmpks5mf0jr a18rnr8kks29cr a2xttmirjc9cnx auowlpoz6psxy a2ssl1g0ytuoxd a2rp4a33p0wx65 a1koa6670251b5 a2elli6y4xff2u akr3ws02xogcw a2kc96axirupl6 a11m822k286alf a2yatr4j9cq5ur a2uetha8w9yz9w a131jtjfcc8m15 a1njuoxgh4fqtv a2x4suxyepvrk a1lqgvku3blmpn a2pp8v8r7hc197 a3aoyrej2il4tg a3qmmz3tntky6b as2i1k69gmk9l a1q195ofist89j a3jldti4wxdq7f a3kmi4yhlfww3c apt07x0fypmbk a2ilsqzhvufqtx aos82x63fq8pu a198nqkbjyts4a a3h2d23whfz8i2 ak76jbp1e1r36 a26mt4ac5er34k aiz1netddr6ki ap3b3jcvnkage a2kdybibgueoop a2e4kxehzr84ja a1ynk1844dtfr2 a2m0ora5cke407 a1bf6zh6r6agtt a1xv4fsncg3mug a3mv42x1pr0m86 apouvd1uqq1ta a2uox98xbqy2ff a1610v8yayz53t ajcji4wxvschb a2e7jedd95h8l1 a1xcdvbsde8top a3mhws6v5x0ng a3hglch2i48m0b a3t2bclaz0yc2q a3nuss1zii11af a38pu9js9fb9e8 a3vpxbofcza67v a145p6fawy7n7w a2u2fyk64jb2ne a3f5rvqxbbaa6v a3r97pubuhpb69 a27whr4fxw2iyq a3bmynj8csdbmf a6rcpkuywl4x6 a2e506e8fws77y a26gf31xt2tkbz a2q6w88kwoel8x a28hm41pk4reg2 a35uytj5im93ee a1n8j22kc59glr a2ftzxbrn21gel a32y91b9eht2be a1cg0gi2xk7ptb acunxja967sen ay0od3e9pr5lq a3e89xq3tb2zz1 ahrh8idwa0eg5 a1kjmrkzkhtw5q a110hs4knxqsor a24tonlnf53nl4 a1atptalihe460 a1zxwy90fqe7mu a24kk5ewtz2hnm a2jv1b1jmqs9u9 a3j4hhfqjbi1ac a38chw5d0i2iuy a1j5qff2bwa1pv a1075dniox303e a2rw3ceop2i8jz a1ver72qlbxrxz alll0sg93ogcv ayhaabme0l4x4 a2ufmlyefy0q91 agf8z1hgxg8s8 a10ox2sb5i06mh a221m27fcfhalo aoc27va498gu0 a1vqiaidpv3lxu a1mvgdtpwbm072 a252ceow2bmdcy a13g29b31q033q a2vq2g6lh8irvc a1uy2sjywrmn6 a3cbg8z4yoniv2 arzs1f387oxxp acrymvnwusun6 a20847j0pmu7qv a1rslcsyx08y3f aau947s2fd8ag at11zweg0y2q4 a3eds7kr4l0lr0 a2jo4fb3zany91 a3ib0lsdmh21b9 a23ovgdg9f650i a3t1bscepcyub5 avxe6hgmk4evx axo0ks9jmcmo5 a1j1apr97wyamx a3j4fwtho7dxqs a3p559lj3yjqe8 a7nwnc6o4g6r8 az1eajepelq49 a1cpgcpyicp80r a2xu8pvcnn0nzz a378denmkmdvjz a3awbeiyl92wtm a1jy23a6mi8sj2 a284mztvk4ea2o a3rcwajk4hr90u a1ll93u6rnffud a1ilcw0olg0df9 a3j17ubxzno322
end PySem.W.Fast
open PySem PySem.W PyProof.Rows
set_option maxRecDepth 100000 in
set_option maxHeartbeats 0 in
theorem PySem.Challenge.cw_evenkinds_k22_programs_without_kind_holds : PySem.Challenge.rw_evenkinds_k22_programs_without_kind.Holds := by
 w_on;o_law;k_head;(case hw=>w_witness2)
 k_fill
 refine Ek.b91 (l:=PySem.Challenge.rw_evenkinds_k22_programs_without_kind) (P:=Ek.Y9) (G:=Ek.v0) (n:=100) (x:="_law_script") (dl:=Ek.ae9) rfl rfl rfl ⟨rfl,∅,∅⟩ (λw h Y=>⟨W.km_in_of Y,W.km_tabs_of Y⟩) rfl ?hst ?F Ek.bt0
 case hst=>
  intro st ps S;have e:=S.sc.pre;have e2:=S.np;rw[e2]at e;exact e.symm
 case F=>
  intro w mg h KX G
  refine' Ek.ck2 KX G ?_ ?_ ?_ ?_ ?_ ?_ ?_ ?_ ?_ ?_ ?_ ?_ ?_ ?_ ?_ ?_ ?_ ?_ ?_ ?_ ?_ ?_ ?_ ?_ ?_ ?_ ?_ ?_ ?_ ?_ ?_ ?_ ?_ ?_ ?_ ?_ ?_ ?_ ?_ ?_ ?_ ?_ ?_ ?_ ?_ ?_ ?_ ?_ ?_ ?_ ?_ ?_ ?_ ?_ ?_ ?_ ?_ ?_ ?_ ?_ ?_ ?_ ?_ ?_ ?_ ?_ ?_ ?_ ?_ ?_ ?_ ?_ ?_ ?_ ?_ ?_ ?_ ?_ ?_ ?_ ?_ ?_ ?_ ?_ ?_ ?_ ?_ ?_ ?_ ?_ ?_ ?_ ?_ ?_ ?_ ?_
  rotate_left 11
  iterate 6 (refine' Ek.fnA ?a ?b ?c ?d;(case a|b|c|d=>k_is))
  (refine' Ek.fnM ?a ?b ?c ?d ?e ?f ?g;(case a|b|c|d=>k_is);(case e=>rfl);(case f=>kernel_rfl);(case g=>decide))
  iterate 4 (refine' Ek.fnA ?a ?b ?c ?d;(case a|b|c|d=>k_is))
  (refine' Ek.fnM ?a ?b ?c ?d ?e ?f ?g;(case a|b|c|d=>k_is);(case e=>rfl);(case f=>kernel_rfl);(case g=>decide))
  iterate 39 (refine' Ek.fnA ?a ?b ?c ?d;(case a|b|c|d=>k_is))
  (intro b hb;simp only[Ek.V5,AR]at hb;(repeat' (rcases hb with rfl|hb))<;>k_is)
  k_is
  rfl
  k_is
  rfl
  k_is
  rfl
  k_is
  kernel_rfl
  iterate 6 k_is
  iterate 2 (refine' Ek.clA ?a ?b ?c ?d ?e ?f ?g;(case a|b|c|d|e|f|g=>k_is))
  iterate 13 k_is
  (refine' Ek.XaA.mk ?xnk ?xns ?xnt ?xne ?xnv ?xxk ?xxs ?xxt ?xkit ?xek ?xet ?xkk ?xkt ?xks ?xem ?xes ?xhd ?xno ?xsa ?xfn ?xkf ?xev;(case xnk|xns|xnt|xne|xnv=>k_is);(case xxk=>(refine' Ek.xcA ?a ?b ?c ?d ?e ?f ?g ?h;(case a=>kernel_rfl);(case b|c|d|e|f|g|h=>k_is)));(case xxs=>(refine' Ek.xcA ?a ?b ?c ?d ?e ?f ?g ?h;(case a=>kernel_rfl);(case b|c|d|e|f|g|h=>k_is)));(case xxt=>(refine' Ek.xcA ?a ?b ?c ?d ?e ?f ?g ?h;(case a=>kernel_rfl);(case b|c|d|e|f|g|h=>k_is)));(case xkit|xek|xet=>kernel_rfl);(case xkk|xkt|xks=>k_is);(case xem|xes|xhd=>kernel_rfl);(case xno|xsa=>k_is);(case xfn=>(refine' Ek.db2 ?a ?b;(case a|b=>k_is)));(case xkf=>k_is);(case xev=>(refine' Exists.intro (.type "type") (IB ?a (IB ?b ?c));(case a|b|c=>k_is))))
  (refine' Ek.mtA ?a ?b ?c ?d ?e ?f;(case a|b|c|d|e|f=>k_is))
  (refine' Ek.mtM ?a ?b ?c ?d ?e ?f ?g ?h ?i;(case a|b|c|d|e|f=>k_is);(case g=>rfl);(case h=>kernel_rfl);(case i=>decide))
  (refine' Ek.mtD ?a ?b ?c ?d ?e ?f ?g;(case a|b|c|d|e|f|g=>k_is))
  iterate 8 (refine' Ek.mtA ?a ?b ?c ?d ?e ?f;(case a|b|c|d|e|f=>k_is))
  iterate 3 rfl
#print axioms PySem.Challenge.cw_evenkinds_k22_programs_without_kind_holds
