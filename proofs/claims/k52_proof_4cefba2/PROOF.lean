import PyProof.Rows.All
import PyProof.TupleKey
import PyProof.P3Eq
import PyProof.DictKinds
import Wide.All
import OpenK.AllK
import Wide.FinOn
import Lean
import PyProof.EqAt
import PyProof.EqKinds
import PyProof.TupleCall
import PyProof.Rows.SetFrom
import KE.KDictList
import PyProof.StrBlockL
import PyProof.ListMulRoad
import PyProof.FactsAll.tuple
import PyProof.ZipIter
import PyProof.ListNew
import KE.KDictSum
import KE.KRevIter
import KE.KIntText
import PyProof.StrLawsIn
import KE.LcSums
import PyProof.EnumStmt
import PyProof.AttrMissHeap
import KE.KDictOf
import PySem.Challenge.RW_evenkinds_k52_whole_runs_and_their_steps
set_option Elab.async false
set_option maxHeartbeats 4000000
set_option compiler.extract_closed false
set_option genSizeOf false
set_option bootstrap.genMatcherCode false
set_option linter.all false
local macro_rules|`(command|abbrev $i:declId $s:optDeclSig $v:declVal)=>Lean.MonadRef.withRef .missing `(command|noncomputable def $i:declId $s:optDeclSig $v:declVal)
local macro_rules|`(command|def $i:declId $b* :$t $v:declVal)=>Lean.MonadRef.withRef .missing `(command|noncomputable def $i:declId $b* :$t $v:declVal)
local macro_rules|`(⋯)=>`(by lia)
local macro_rules|`(∅)=>`(by decide)
local macro_rules|`(∎)=>`(by simp)
open List (mem_cons mem_filter length_cons append_assoc length_nil any_eq_true mem_map map_map)
open Bool (false_eq_true not_eq_true')
open Option renaming some->AA,none->AC,isSome_iff_exists->BN,bind_eq_some_iff->Bc,ne_none_iff_exists'->Bg,map_eq_some_iff->DI,getD_none->EQ,map_some->Eg,isSome_map->FY,getD_some->GB,isSome_some->ID,casesOn->Ix,getD->Jh,bind->Ji
open Bool renaming true->AB,false->AH,false_ne_true->AK,false_eq_true->BD,and_eq_true->BI,false_or->BS,and_self->BU,or_false->Bj,true_or->Bk,or_true->Bv,not_true->EO,eq_iff_iff->Ex,and_eq_true_iff->FI,or_eq_false_iff->FQ,not_eq_true'->Gn,and_false->Gv,not_false->JR
open PySem renaming wpAny_bind->AD,Value->AG,Addr->AI,wpAny_pure->AJ,Shared->AL,mainGlobals->AO,Expr->AR,wpAny->AV,Program->Ah,starEach->Am,PyData->Ap,World->Aq,Scope->BB,bootBuiltins->BK,wpAny_newObj_type->BM,Around->BP,Stmt->BV,wpAny_call_entry->BX,wpAny_mono->Bf,FuncData->Bi,SetTable->Bq,wpAny_callSpecial?_slot->Bu,wpAny_holding->CA,assignEach->CC,wpAny_Call_Name_kw->CD,compareOp->CJ,wpAny_truthy_bool->CK,behindInMarks->CM,backTo->CU,wpAny_passesOwn->Cf,swapsWith->Ci,cLine->Cm,sysModules->Cp,builtinsNs->Cq,binaryOp->Cr,Arguments->DD,attributeBase->DL,wpAny_specialOf->DN,codeAny_builtin->DP,Builtin->DR,call_meets->DV,wpAny_field->DX,foldedSetIterable->Dc,codeAny_mono->Dd,FuncBody->Dj,DictEntry->Dn,wpAny_askSetting->Dt,codeAny->Dw,sliceBounds->EB,TriplesOk->ET,wpAny_seqItems->EX,bindArgs->EZ,wpAny_setField->Eb,wpAny_pyIter_tuple->Ec,eqIsQuiet_byValue->Em,intKind->En,CmpOp->Eo,getItem->Ep,wpAny_setState_of->Er,wpAny_pyHash_str->FC,Operator->FE,letOwnedTupleGo->FN,wpAny_loadPart'->FO,NameKind->Fj,keywordEach->Fk,firstArgMember->Fq,methodCallForm->Ft,codeAmong->Fy,wpAny_setEntries_of->GH,swapsWithSole->GP,pyNext->GR,rawInt->GS,valueAt->Gg,wpAny_pyIter_list->Gj,wpAny_pyIter_enum->Gk,wpAny_pyHash_int->Gy,wpAny_isInstance->Gz,PassesOwn->HB,noFill_tuple_add->HD,IsPart->HE,pickOrder->HH,wpAny_execs_nil->HN,codeAny_of_tree->HP,standAt->HS,callerA->HW,wpAny_rule->HZ,isTrue->Hf,pyIter->Hh,recursionLimit->Hj,backToKw->Hk,atKey->Hn,closureFor->Ho,isSubtype_type->Hq,wpAny_standAt->II,seq_tuple_add->IJ,plainId_quiet->IK,wpAny_comprehension_free->IL,Comprehension->IN,bindL->IQ,bindC->IR,Result->Ia,BindsTo->Ib,concat_meets->Ie,wpAny_typeOf->Ig,seqIndex_neg->Ih,ItemsOf->Io,wpAny_isTrue_Compare1->Iq,getitemInPython_of_ne->Ir,builtinLookup_eq_fast->Iv,seqIndex_of->JA,wpAny_letTemporaryGo->JC,wpAny_of_eq->JF,wpAny_newFunctionEnv->JI,wpAny_pyIter_revIter->JM,wpAny_Name->JV,wpAny_load->JX,wpAny_call->JZ,typeIs_int->Jc,intKind_is->Jd,setsByText->Jf,setItem->Jl,wpAny_assign_Name->Jm,wpAny_sequenceKey->Jo,slot_list_getitem->Jp,Keyword->Jq,wpAny_storeSet_of->Jt,setNext->Ju,wpAny_pyIter_slot->Jw,dictGet->Jz,slot_dict_getitem->KA,wpAny_forIn_list->KD,wpAny_execs_cons->KF,getMethod->KI,cellsFrom->KM,seqIndex?->KQ,wpAny_operating->KZ,typeLookup_type->Kb,wpAny_ite_split->Ke,wpAny_Compare1->Kk,IntMulOk->Kl,letTemporaryGo->Kq,wpAny_runValue->Kt,cellOf->Ku,compEnvC->Kv,newFunctionEnv->Kx,entryFor->Ky,entryFor_alias->Kz,argsOk->LA,wpAny_fieldsOf->LB,newExc->LC,Meets->LD,IsEnum->LF,BoolOp->LG
open Decidable renaming decide->AE
open List renaming getElem?_eq_getElem->AM,length_cons->AS,length_append->AU,length_map->AX,replicate->AY,size_toArray->Aa,getElem?_eq_some_iff->Ac,getElem?_append_right->Ad,mem_cons->Ae,getElem?_append_left->Aj,length_singleton->Ak,map_append->Al,map_cons->An,length_nil->Av,getElem?_map->Aw,mem_cons_of_mem->BA,mem_append_right->BF,range->BG,mem_singleton->BQ,mem_append->BR,not_mem_nil->Ba,append_nil->Be,mem_cons_self->Bl,mapIdx->Br,eq_nil_of_length_eq_zero->Bs,length_take->Bt,append_assoc->Bz,length_drop->CB,length_eq_zero_iff->CG,mem_append_left->CI,filterMap_cons->CT,replicate_succ->CV,any_cons->CW,mem_of_getElem?->Cg,nodup_cons->Cs,drop_eq_getElem_cons->Cu,filterMap_cons_some->Cw,length_replicate->DC,lookup->DG,take_of_length_le->DQ,getElem?_replicate->DU,all_eq_true->DY,reverse_cons->Dh,length->Dl,mem_range->Do,find?_cons->Ds,sum_append->Dv,map_nil->Dx,casesOn->Dz,getElem_mem->ED,lookup_cons->EE,flatten_cons->EL,any_nil->EN,filterMap_cons_none->ER,getElem_of_mem->Ea,nil_append->Ed,getElem?_cons_succ->Ee,cons_append->El,mem_map->Et,getElem?_eq_none->FG,length_pos_iff->FP,foldl->FX,zip_cons_cons->FZ,length_mapIdx->Fi,sum_cons->Fv,any_eq_false->Fw,take_sublist->Fx,ext_getElem?->GA,eraseIdxIfInBounds_toArray->GF,of_mem_zip->GU,length_range->Gi,getElem?_take_of_lt->HK,any_eq_true->HM,getElem?_set_self->HR,drop_of_length_le->HX,take_append_drop->Hr,singleton_append->Hu,sizeOf_lt_of_mem->Hw,set_append_right->Hx,getElem?_set_ne->IA,replicate_succ'->IF,length_reverse->IM,mem_filterMap->IP,pairwise_cons->IS,map_filterMap->IT,getElem_drop->Ij,getElem?_set->Il,drop_length->Iw,map_reverse->Iy,foldl_cons->JB,append_inj'->JP,findIdx?->Je,map_drop->Jg,sum_nil->KB,map_map->KC,drop->LH
open PySem.W renaming Frag->AN,nsIn->BH,findIn->BL,keepIn->Bo,codeHdIn->Cb,kia_one->Cd,emptyDict->Cn,kitOne->Dq,codeIn->Du,instObj->EJ,fnOf->EM,plainGet->GE,callWith_K->GT,hasDictIn->Gu,mg_of->HL,tabObj->HQ,plainGet_of->Hi,makesIn->IB,methodObj->IX,lookIn->IY,plainOver->IZ,noTabs->Ip,takerIn->JY,cellsFrom_some->Ja,methodCall_KW->Jy,isFn->KH,callWith_K0->KY,codeHd_of_K->Kh,kitx_tuple->Km
open PySem.Heap renaming get?_push_of_some->AQ,get?_push_size->Ai,lt_size->Ar,size_push->Dp,get?_update_self->Dr
open False renaming elim->AT
open Nat renaming le_refl->AW,lt_of_lt_of_le->Ab,zero_le->Ao,succ_le_succ->As,le_trans->Ay,ne_of_lt->BE,zero_add->Ch,le_succ_of_le->Cj,lt_succ_self->Cy,sub_le_sub_right->DE,le_of_lt->DJ,lt_irrefl->DW,lt_of_le_of_lt->Di,mul_le_mul_right->Dm,lt_succ_of_lt->Dy,add_right_comm->EG,min->ES,add_sub_cancel_left->Ej,strongRecOn->FB,lt_trans->Fm,not_lt_zero->Fn,succ_pos->Fp,le_max_left->Fu,le_max_right->GW,min_le_left->Gd,succ_ne_self->Gm,succ_lt_succ->Gq,add_assoc->Gx,ne_of_gt->Hg,succ_mul->Hm,sub_self->Hv,mul_le_mul->Hy,le_succ->Ic,add_sub_cancel->Im,succ_le_of_lt->Iu,min_le_right->Iz,mul_comm->JD,sub_zero->JN,min_eq_right->JO,le_add_right->JQ,min_eq_left->JU,le_of_eq->KJ,pow_succ->KS,succ_add->Kr,mod_lt->Ks,not_lt->Kw,max_zero->LI
open PySem.Str renaming ofString->AZ
open Option.some renaming inj->Ag,injEq->Ct
open PySem.NameKind renaming free->Au
open List.cons renaming injEq->Ax,inj->IW
open PySem.Value renaming ref->Az,none->Bh,int->Da,type->Db,isInt_shape->EI,str->EY,isInt->FD,bool->FS,isStrOf->HA,float->He,isStrOf_shape->Hz,bytes->Jj
open PySem.PyData renaming eqv->BC,depthAll->CQ,eqvAll->Co,canLayAll0->DH,depth->FW,canLay0->GX,strOk->JT
open Classical renaming byContradiction->BJ
open Array renaming length_toList->BO,getElem?_eq_getElem->Bn,getD->CP,getElem?_toList->CZ,getElem?_eq_none->DM,toList_append->FJ,getElem?_eq_some_iff->Gh,size_setIfInBounds->HG,forIn_toList->IG,toList_push->IU,size_map->JE,toList->JW
open List.mapIdx renaming go->BW
open PyProof.Rows renaming callWith_type1->BY,IntsAre->CL,slot_tuple_getitem->Cv,Good->Dk,callWith_builtin1->FH,subscriptTail->GQ,seqObj->GV,AllBare->Ge,envOfC->HC,Constant_none->IH,subscriptTail_builtinR->Ii,Subscript_->Jb,Call_->Jn,IsTup->Kj,slicePart_none->Ko
open String renaming reduceEq->BZ
open PySem.Builtin.Tuple renaming tupleHashOf->Bd,tupleExact->Cc,tupleItemsOf->FR,tupleTooMany->FV
open PySem.Obj renaming data_mapFields->Bp,mapSeq->Eu,isFreed_of_fields->FF,cls_mapFields->GI,putSet->Ik,mapFields->Jx
open PyProof.Rows.KTD renaming datumAt->Bw
open PySem.Builtin.List renaming listTooLong->Bx,listLengthHint->FU,listExtendWith->Kg
open ForInStep renaming yield->By
open Int renaming toNat_natCast->CH,eq_ofNat_of_zero_le->CO,emod_lt_of_pos->EF,emod_nonneg->Ey,natCast_mul->JS,le_refl->Ki
open PySem.Builtin.SmallTypes renaming nextOf->CN
open True renaming intro->CS
open PySem.Builtin.Slice renaming slicePlaces->CY,sliceAdjust->De,sliceApplied->FT,slicePartIndex->KN,sliceFields->KO
open PySem.Around renaming under_plainId->Ce,under->HJ,frames_deeper->HV
open PySem.Calls renaming spliced_cons->Cz,spliced_nil->EK,callWith_builtin->Ef,Name_function_global->Gf,evalArgs_plain->Hl
open Ne renaming symm->DF
open PySem.Builtin.Int renaming intBits->DZ,intTooBig->Ga
open PySem.Stmt.FunctionDef renaming elim->EA
open PySem.SetTable renaming insertAt->EC,fits->GY,fill->GZ,tooFull->IE,below->IV
open Sum.inr renaming injEq->EH
open PySem.Expr.Attribute renaming elim->EU
open PySem.Expr.Subscript renaming elim->EV
open PySem.Arg renaming arg->EW
open PySem.Expr.ListComp renaming elim->Eh
open PySem.Expr.Constant renaming elim->Ei
open PyProof.Rows.IntsAre renaming length->Ew
open PySem.Expr.UnaryOp renaming elim->Ez
open PySem.Expr.Compare renaming elim->FA
open PySem.Expr.BoolOp renaming elim->FK
open PySem.Stmt.Assign renaming elim->FL
open PySem.Stmt.Return renaming elim->FM
open PySem.Expr.BinOp renaming elim->Fa
open PySem.Expr.IfExp renaming elim->Fb
open PySem.Expr.Tuple renaming elim->Fc
open PySem.Expr.Slice renaming elim->Fe
open PySem.Stmt.While renaming elim->Fg
open Char renaming toNat->Fh
open Sum renaming inl->GC,inr->GD
open PySem.Expr.Dict renaming elim->GJ
open PySem.Expr.Call renaming elim->GK
open PySem.Expr.Name renaming elim->GL
open PySem.Expr.List renaming elim->GM
open PySem.Stmt.Expr renaming elim->GN
open PySem.Stmt.Pass renaming elim->GO
open PySem.AutoSeq1 renaming wpAny_loadPart'->Gb
open PySem.Stmt.For renaming elim->Gc
open PySem.pickOrder renaming go->Gp
open Nat.succ renaming inj->Gw
open PySem.Stmt.If renaming elim->HI
open PySem.Code renaming isFrame->HU,frames->KL
open PySem.BindsTo renaming of_defaults->HY
open Prod renaming ext->IC
open PySem.Builtin.Frozenset renaming newClass->JG,updateFrom->JH,slot0->JJ,addrOf->JK,sizeOf->JL
open PySem.CmpOp renaming NotIn->Jk
open PySem.W.WShape renaming has->Jr
open PySem.Builtin.Range renaming rangeSize->KG
open LawfulBEq renaming eq_of_beq->KP
open List.Pairwise renaming nil->KR,filterMap->KU
open PySem.Walks renaming list->KW
open PySem.W.WData renaming int->Ka
open PySem.Builtin.Dict renaming missed->Kf
open SizeOf renaming sizeOf->LJ
theorem oe1{α:Sort u}{p:α->Prop}{G:Prop}(h:∃a,p a)(k:∀a,p a->G):G:=h.elim k
theorem oe2{α:Sort u}{β:Sort v}{p:α->β->Prop}{G:Prop}(h:∃a b,p a b)(k:∀a b,p a b->G):G:=oe1 h λa h=>oe1 h (k a)
theorem oe3{α:Sort u}{β:Sort v}{γ:Sort w}{p:α->β->γ->Prop}{G:Prop}(h:∃a b c,p a b c)(k:∀a b c,p a b c->G):G:=oe1 h λa h=>oe2 h (k a)
theorem oe4{α:Sort u}{β:Sort v}{γ:Sort w}{δ:Sort x}{p:α->β->γ->δ->Prop}{G:Prop}(h:∃a b c d,p a b c d)(k:∀a b c d,p a b c d->G):G:=oe1 h λa h=>oe3 h (k a)
theorem oe5{α:Sort u}{β:Sort v}{γ:Sort w}{δ:Sort x}{ε:Sort y}{p:α->β->γ->δ->ε->Prop}{G:Prop}(h:∃a b c d e,p a b c d e)(k:∀a b c d e,p a b c d e->G):G:=oe1 h λa h=>oe4 h (k a)
theorem oe6{α:Sort u}{β:Sort v}{γ:Sort w}{δ:Sort x}{ε:Sort y}{ζ:Sort z}{p:α->β->γ->δ->ε->ζ->Prop}{G:Prop}(h:∃a b c d e f,p a b c d e f)(k:∀a b c d e f,p a b c d e f->G):G:=oe1 h λa h=>oe5 h (k a)
theorem oa2{A B G:Prop}(h:A∧B)(k:A->B->G):G:=k h.1 h.2
theorem oa3{A B C G:Prop}(h:A∧B∧C)(k:A->B->C->G):G:=oa2 h.2 (k h.1)
theorem oa4{A B C D G:Prop}(h:A∧B∧C∧D)(k:A->B->C->D->G):G:=oa3 h.2 (k h.1)
theorem oa5{A B C D E G:Prop}(h:A∧B∧C∧D∧E)(k:A->B->C->D->E->G):G:=oa4 h.2 (k h.1)
theorem oa6{A B C D E F G:Prop}(h:A∧B∧C∧D∧E∧F)(k:A->B->C->D->E->F->G):G:=oa5 h.2 (k h.1)
theorem oa7{A B C D E F H G:Prop}(h:A∧B∧C∧D∧E∧F∧H)(k:A->B->C->D->E->F->H->G):G:=oa6 h.2 (k h.1)
theorem oa8{A B C D E F H I G:Prop}(h:A∧B∧C∧D∧E∧F∧H∧I)(k:A->B->C->D->E->F->H->I->G):G:=oa7 h.2 (k h.1)
open Lean in
local macro_rules|`(tactic|obtain⟨$ps,*⟩:=$e:term)=>do
 let ps:=ps.getElems
 let n:=ps.size
 let rec br(f:Nat)(s:Syntax):Bool:=match f with
  |0=>false
  |f+1=>s.getKind==``Lean.Parser.Tactic.rcasesPatMed&&s[0].getArgs.size>1||s.getArgs.any (br f)
 if n<2||ps.any (br 20 ·) then
  Macro.throwUnsupported
 let rec pl(f:Nat)(s:Syntax):Syntax:=match f with
  |0=>s
  |f+1=>if s.isIdent then s else if s.getArgs.size==1&&s.getKind != ``Lean.Parser.Tactic.rcasesPat.ignore||s.getArgs.size==2&&s[1].getArgs.size==0 then pl f s[0] else s
 let mut ts:Array (Array (TSyntax `tactic)):=#[]
 for p in ps do
  let q:=pl 8 p.raw
  let j ← withFreshMacroScope `(z)
  let j:Ident:=⟨j.raw⟩
  if q.isIdent&&q.getId != `rfl then
   ts:=ts.push #[← `(tactic|intro $(⟨q⟩):ident)]
  else
   ts:=ts.push #[← `(tactic|intro $j:ident),← if q.isIdent then `(tactic|subst $j:ident) else if q.getKind==``Lean.Parser.Tactic.rcasesPat.ignore then `(tactic|skip) else if p.raw[1].getArgs.size==0 then `(tactic|obtain $(⟨p.raw[0]⟩):rcasesPatMed:=$j:ident) else `(tactic|rcases $j:ident with $p:rcasesPatLo)]
 let cl ← if e.raw.isIdent then `(tactic|try clear $(⟨e.raw⟩):ident) else `(tactic|skip)
 let mut al:Array (TSyntax ``Lean.Parser.Tactic.tacticSeq):=#[]
 for (c,b,t) in [("oe",1,6),("oa",2,8)] do
  for k' in [0:t] do
   let k:=t-k'
   let u:=if c=="oe" then k+1 else k
   if b<=k&&u<=n then
    let x:=mkIdent (.str .anonymous s!"{c}{k}")
    let mut pp:=(ts.extract 0 (if u==n then n else u-1)).foldl (·++·) #[]
    if u<n then
     let rs:=ps.extract (u-1) n
     pp:=pp ++ #[← `(tactic|intro h),← `(tactic|obtain⟨$rs,*⟩:=h)]
    al:=al.push (← `(Lean.Parser.Tactic.tacticSeq|refine $x $e ?_;$cl;$[$pp]*))
 `(tactic|first $[|$al]*|rcases $e:term with⟨$(ps),*⟩)
namespace PySem
noncomputable instance decPyData:DecidableEq Ap:=λa b=>Classical.propDecidable (a=b)
namespace NK
mutual
noncomputable def lit:Ap->Bool
 |.int _=>AB
 |.str x=>GX (.str x)
 |.tuple ds=>k8 ds
 |_=>AH
noncomputable def k8:List Ap->Bool
 |[]=>AB
 |d::r=>lit d&&k8 r
end
mutual
theorem ae7:∀d:Ap,lit d=AB->d.canLay0=AB
 |.int _,_=>rfl
 |.str _,h=>h
 |.tuple ds,h=>by rw[GX];exact ar8 ds h
 |.none,h=>nomatch h
 |.bool _,h=>nomatch h
 |.list _,h=>nomatch h
 |.dict _,h=>nomatch h
theorem ar8:∀ds:List Ap,k8 ds=AB->DH ds=AB
 |[],_=>rfl
 |d::r,h=>by
  have h':lit d=AB/\k8 r=AB:=by simpa[k8]using h
  show(d.canLay0&&DH r)=AB;rw[ae7 d h'.1,ar8 r h'.2];rfl
end
mutual
theorem ae5:∀x y:Ap,lit x=AB->lit y=AB->(BC x y=AB↔x=y)
 |.int i,.int j,_,_=>by rw[BC];simp
 |.int i,.str y,_,_=>by simp[BC]
 |.int i,.tuple ys,_,_=>by simp[BC]
 |.str x,.int j,_,_=>by simp[BC]
 |.str x,.str y,_,_=>by rw[BC];simp
 |.str x,.tuple ys,_,_=>by simp[BC]
 |.tuple xs,.int j,_,_=>by simp[BC]
 |.tuple xs,.str y,_,_=>by simp[BC]
 |.tuple xs,.tuple ys,hx,hy=>by rw[BC,aq8 xs ys hx hy];simp
 |.none,_,h,_=>nomatch h
 |.bool _,_,h,_=>nomatch h
 |.list _,_,h,_=>nomatch h
 |.dict _,_,h,_=>nomatch h
 |_,.none,_,h=>nomatch h
 |_,.bool _,_,h=>nomatch h
 |_,.list _,_,h=>nomatch h
 |_,.dict _,_,h=>nomatch h
theorem aq8:∀xs ys:List Ap,k8 xs=AB->k8 ys=AB->(Co xs ys=AB↔xs=ys)
 |[],[],_,_=>by simp[Co]
 |[],y::ys,_,_=>by simp[Co]
 |x::xs,[],_,_=>by simp[Co]
 |x::xs,y::ys,hx,hy=>by
  have hx':lit x=AB/\k8 xs=AB:=by simpa[k8]using hx
  have hy':lit y=AB/\k8 ys=AB:=by simpa[k8]using hy
  rw[Co,BI,ae5 x y hx'.1 hy'.1,aq8 xs ys hx'.2 hy'.2];simp
end
theorem ad8:∀{ds},k8 ds=AB->∀d∈ds,lit d=AB
 |[],_,d,h=>by cases h
 |e::r,hl,d,h=>by
  have h':=by simpa[k8]using hl
  rcases Ae.mp h with rfl|h
  ·exact h'.1
  ·exact ad8 h'.2 d h
theorem ad2:∀{ds}{d},d∈ds->d.depth<=CQ ds
 |e::r,d,h=>by
  show d.depth<=max e.depth (CQ r)
  rcases Ae.mp h with rfl|h
  ·lia
  ·have:=ad2 h;lia
def depth_tup{ds}:(PyData.tuple ds).depth=CQ ds+1:=by rw[FW]
mutual
theorem az7{h:Heap}:∀(x y:Ap){v:AG}{as bs:List AI},lit x=AB->lit y=AB->Reads h v x as->Reads h v y bs->x=y
 |.int i,y,v,as,bs,_,hy,rx,ry=>by
  cases rx;cases ry;rfl
 |.str x,y,v,as,bs,_,hy,rx,ry=>by
  cases rx;cases ry;rfl
 |.tuple xs,y,v,as,bs,hx,hy,rx,ry=>by
  cases rx with
  |tuple e1 e2 e3 e4=>
   cases ry with
   |tuple f1 f2 f3 f4=>
    rw[e1]at f1;cases f1;rw[e3]at f3;cases f3;rw[aw5 xs _ hx hy e4 f4]
   |list=>cases hy
   |dict=>cases hy
 |.none,_,_,_,_,h,_,_,_=>nomatch h
 |.bool _,_,_,_,_,h,_,_,_=>nomatch h
 |.list _,_,_,_,_,h,_,_,_=>nomatch h
 |.dict _,_,_,_,_,h,_,_,_=>nomatch h
theorem aw5{h:Heap}:∀(xs ys:List Ap){vs:List AG}{as bs:List AI},k8 xs=AB->k8 ys=AB->ReadsAll h vs xs as->ReadsAll h vs ys bs->xs=ys
 |[],ys,vs,as,bs,_,_,rx,ry=>by cases rx;cases ry;rfl
 |x::xs,ys,vs,as,bs,hx,hy,rx,ry=>by
  cases rx with
  |cons r1 r2=>cases ry with
   |@cons _ _ y ys _ _ q1 q2=>
    have hx':lit x=AB/\k8 xs=AB:=by simpa[k8]using hx
    have hy':lit y=AB/\k8 ys=AB:=by simpa[k8]using hy
    rw[az7 x y hx'.1 hy'.1 r1 q1,aw5 xs ys hx'.2 hy'.2 r2 q2]
end
mutual
theorem ax5{h h':Heap}{d:AI}{o:Obj}{es:Array Dn}{ep:Nat}(ho:h.get? d=AA o)(hd:o.data=.dict es ep)(hs:Heap.SameBut d h h'):∀(x:Ap){v:AG}{as:List AI},lit x=AB->Reads h v x as->∃bs,Reads h' v x bs
 |.int i,v,as,_,r=>by cases r;exact⟨_,.int _ _⟩
 |.str x,v,as,_,r=>by cases r;exact⟨_,.str _ _⟩
 |.tuple xs,v,as,hx,r=>by
  cases r with
  |@tuple a o' _ _ _ _ e1 e2 e3 e4=>
   have hne:a≠d:=by
    rintro rfl;rw[e1]at ho;cases ho;rw[hd]at e3;exact nomatch e3
   obtain⟨bs,r'⟩:=aq5 ho hd hs xs hx e4;exact⟨_,.tuple ((hs.2 a hne).trans e1) e2 e3 r'⟩
 |.none,_,_,h,_=>nomatch h
 |.bool _,_,_,h,_=>nomatch h
 |.list _,_,_,h,_=>nomatch h
 |.dict _,_,_,h,_=>nomatch h
theorem aq5{h h':Heap}{d:AI}{o:Obj}{es:Array Dn}{ep:Nat}(ho:h.get? d=AA o)(hd:o.data=.dict es ep)(hs:Heap.SameBut d h h'):∀(xs:List Ap){vs:List AG}{as:List AI},k8 xs=AB->ReadsAll h vs xs as->∃bs,ReadsAll h' vs xs bs
 |[],vs,as,_,r=>by cases r;exact⟨_,.nil⟩
 |x::xs,vs,as,hx,r=>by
  cases r with
  |cons r1 r2=>
   have hx':lit x=AB/\k8 xs=AB:=by simpa[k8]using hx
   obtain⟨b1,q1⟩:=ax5 ho hd hs x hx'.1 r1;obtain⟨b2,q2⟩:=aq5 ho hd hs xs hx'.2 r2;exact⟨_,.cons q1 q2⟩
end
mutual
noncomputable def hK(w:Aq):Ap->Int
 |.int i=>hashInt i
 |.str x=>hashStr w x
 |.tuple ds=>reduceHash (Bd (hKs w ds))
 |_=>0
noncomputable def hKs(w:Aq):List Ap->List Int
 |[]=>[]
 |d::r=>hK w d::hKs w r
end
mutual
noncomputable def dw:Ap->Nat
 |.tuple ds=>dws ds+1
 |_=>1
noncomputable def dws:List Ap->Nat
 |[]=>0
 |d::r=>dw d+dws r
end
theorem af0 w:∀a b,hKs w (a++b)=hKs w a++hKs w b
 |[],b=>rfl
 |x::a,b=>by rw[El,hKs,af0 w a b];rfl
theorem af5:∀a b,dws (a++b)=dws a+dws b
 |[],b=>by simp[dws]
 |x::a,b=>by rw[El,dws,af5 a b,dws,Gx]
variable {prog:Ah} {w:Aq}
def bz8:∀(n:Nat)(d:Ap),d.depth<=n->lit d=AB->∀{A:BP}{E:AG->AL->Prop}{s:AL}{v:AG}{as:List AI}{Q:Int->AL->Prop},A.units+n<Cm->Reads s.heap v d as->Q (hK w d) {s with toks:=s.toks+dw d}->AV (model prog w) A (pyHash v) Q E s:=by
 intro n
 induction n with
 |zero=>
  intro d hd hl A E s v as Q hu r h;cases r with
  |int i t=>exact Gy (by simpa[hK,dw]using h)
  |str x t=>exact FC (by simpa[hK,dw]using h)
  |tuple=>rw[depth_tup]at hd;lia
  |none=>cases hl
  |bool=>cases hl
  |list=>cases hl
  |dict=>cases hl
 |succ n ih=>
  intro d hd hl A E s v as Q hu r h;cases r with
  |int i t=>exact Gy (by simpa[hK,dw]using h)
  |str x t=>exact FC (by simpa[hK,dw]using h)
  |none=>cases hl
  |bool=>cases hl
  |list=>cases hl
  |dict=>cases hl
  |@tuple a o items m xs as ho hc hda hi=>
   rw[depth_tup]at hd;have hl':k8 xs=AB:=hl;have hT:s.TypeIs (.ref a) "tuple":=⟨o,ho,hc⟩;unfold pyHash
   first|unfold pyHashByItsType|skip
   first|refine AD (wpAny_cRoomFor_or (.inr ⋯) ?_)|skip
   refine AD (DN hT F.slot_tuple_hash.lookup ?_);show AV _ _ (if(AA (Value.builtin "tuple.__hash__")==AA Bh)=AB then _ else _) Q E s;rw[if_neg (by rw[beq_builtin_none];exact AK)];refine AD (DN hT F.slot_tuple_hash.lookup ?_);show AV _ _ (callSpecialIfBoundUnlessNone? (.ref a) "__hash__" _>>=_) Q E s;refine AD (wpAny_callSpecialIfBoundUnlessNone?_slot hT F.slot_tuple_hash (BX F.slot_tuple_hash hT F.entry_tuple_hash ?_ (F.args_tuple_hash_1 _)));show AV _ _ (FR (.ref a)>>=_) _ _ s;refine AD (wpAny_tupleItemsOf ho hda ?_);refine AD ?_;rw[<-IG];refine KD _
    (λd7(b:Array Int)s'=>∃done left bs,xs=done++left/\ReadsAll s.heap d7 left bs/\b.toList=hKs w done/\s'={s with toks:=s.toks+dws done})
    _ ?_ ?_ _ _ ⟨[],xs,_,rfl,hi,rfl,rfl⟩
   ·rintro x d7 b s' ⟨done,left,bs,rfl,hl2,hb,rfl⟩;cases hl2 with
    |@cons _ _ k ks' _ _ h1 hl3=>
     have hk:k∈done++k::ks':=by simp
     refine AD (ih k (by have:=ad2 hk;lia) (ad8 hl' k hk) ?_ h1 ?_)
     ·show A.units+1+n<Cm;lia
     first
      |exact AJ ⟨done++[k],ks',_,∎,hl3,by rw[af0];simp[hb,hKs],by simp[af5,dws,Gx]⟩
      |exact AD (AJ (AJ ⟨done++[k],ks',_,∎,hl3,by rw[af0];simp[hb,hKs],by simp[af5,dws,Gx]⟩))
   ·rintro b s' ⟨done,left,bs,rfl,hl2,hb,rfl⟩;cases hl2;rw[Be]at h;simp only[hK,dw]at h;show AV _ _ (retInt (Bd b.toList)) _ _ _;rw[hb];refine wpAny_ret_mkInt ?_;show AV _ _ (if(AE (-(2:Int)^63<=Bd (hKs w done))&&AE (Bd (hKs w done)<2^63))=AB then _ else _) Q E _;unfold reduceHash at h
    by_cases hr:(AE (-(2:Int)^63<=Bd (hKs w done))&&AE (Bd (hKs w done)<2^63))=AB
    ·rw[if_pos hr];rw[if_pos hr]at h;exact AJ (by simpa[Gx]using h)
    ·rw[if_neg hr];rw[if_neg hr]at h;exact AD (HZ (AJ (by simpa[Gx]using h)))
def bq2:∀n(d),d.depth<=n->lit d=AB->∀{A}{E}{s}{v}{as}{Q},Reads s.heap v d as->Q AB s->AV (model prog w) A (eqIsQuiet n v) Q E s:=by
 intro n
 induction n with
 |zero=>
  intro d hd hl A E s v as Q r h;cases r with
  |int i t=>exact AJ h
  |str x t=>exact AJ h
  |tuple=>rw[depth_tup]at hd;lia
  |none=>cases hl
  |bool=>cases hl
  |list=>cases hl
  |dict=>cases hl
 |succ n ih=>
  intro d hd hl A E s v as Q r h;cases r with
  |int i t=>exact AJ h
  |str x t=>exact AJ h
  |none=>cases hl
  |bool=>cases hl
  |list=>cases hl
  |dict=>cases hl
  |@tuple a o items m xs as ho hc hda hi=>
   rw[depth_tup]at hd;have hl':=hl;have hT:s.TypeIs (.ref a) "tuple":=⟨o,ho,hc⟩;unfold eqIsQuiet;refine AD (DN hT F.slot_tuple_eq.lookup ?_);refine AD (Gz hT isSubtype_tuple_tuple ?_);refine AD (EX ho hda ?_);refine AD ?_;rw[<-IG];refine KD _ (λd7 r s'=>r.1=AC/\s'=s/\∃left bs,(∀k∈left,lit k=AB/\k.depth<=n)/\ReadsAll s.heap d7 left bs) _ ?_ ?_ _ _ ⟨rfl,rfl,xs,_,λk hk=>⟨ad8 hl' k hk,by have:=ad2 hk;lia⟩,hi⟩
   ·rintro v d7 r s' ⟨hr,rfl,left,bs,hall,hl2⟩;cases hl2 with
    |@cons _ _ k ks' _ _ h1 hl3=>
     obtain⟨k1,k2⟩:=hall k ∎;refine AD (ih k k2 k1 h1 ?_);exact AJ ⟨rfl,rfl,ks',_,λu hu'=>hall u (by simp[hu']),hl3⟩
   ·rintro⟨r1,r2⟩ s' ⟨hr,rfl,_⟩;subst hr;exact AJ h
abbrev isK(h:Heap)(k:Ap)(a:AI):Prop:=lit k=AB/\k.depth<=7/\∃as,Reads h (.ref a) k as
abbrev dataKind(prog:Ah)(w:Aq):HeapKind prog w Ap where
 is:=isK
 hash:=hK w
 draws:=dw
 room:=λA=>A.units+8<Cm
 inj:=λ⟨l1,_,_,r1⟩⟨l2,_,_,r2⟩=>az7 _ _ l1 l2 r1 r2
 keeps:=λ⟨l1,d1,_,r1⟩ho hd hs=>⟨l1,d1,ax5 ho hd hs _ l1 r1⟩
 pyHash:=λhu⟨l1,d1,_,r1⟩h=>bz8 7 _ d1 l1 ⋯ r1 h
 eqBool:=λ{A E s x y a b Q}hu⟨l1,d1,_,r1⟩⟨l2,d2,_,r2⟩h=>by
  have e:BC x y=AE (x=y):=by
   by_cases z:x=y
   ·rw[decide_eq_true z];exact(ae5 x y l1 l2).mpr z
   ·rw[decide_eq_false z];cases q:BC x y with
    |false=>rfl
    |true=>exact absurd ((ae5 x y l1 l2).mp q) z
  have:=SeqAt.eqAt_reads x y A s _ _ _ _ r1 r2 (ae7 x l1) (ae7 y l2) (by have:min x.depth y.depth<=x.depth:=Gd _ _;lia);rw[e]at this;exact this prog w E Q h
 quiet:=λ⟨l1,d1,_,r1⟩h=>bq2 8 _ ⋯ l1 r1 h
def dataKind_room_in1{prog}{w}{A:BP}(h:A.units+20<Cm):(dataKind prog w).room A.in1:=by
 show A.units+1+8<Cm;lia
end NK
end PySem
set_option maxRecDepth 100000
namespace L2
open PySem PySem.Spec PyProof.Rows
@[reducible]noncomputable def Key:=Sum Int Str
abbrev N0:Key->AG->Bool
 |.inl k,v=>FD k v
 |.inr x,v=>HA x v
abbrev cy3(w:Aq):Key->Int
 |.inl k=>hashInt k
 |.inr x=>hashStr w x
def A5:∀{k}{v},N0 k v=AB->(∃i t,k=GC i/\v=Da i t)\/∃x t,k=GD x/\v=EY x t
 |.inl i,v,h=>by
  obtain⟨t,e⟩:=EI h;exact .inl ⟨i,t,rfl,e⟩
 |.inr x,v,h=>by
  obtain⟨t,e⟩:=Hz h;exact .inr ⟨x,t,rfl,e⟩
def bh5(i)t:N0 (.inl i) (.int i t)=AB:=by simp[N0,FD]
def bg8(x)t:N0 (.inr x) (.str x t)=AB:=by simp[N0,HA]
def b46 a b:AE ((GC a:Key)=GC b)=(a==b):=by
 by_cases e:a=b
 ·subst e;simp
 ·simp_all
def cb0(a b:Str):AE ((GD a:Key)=GD b)=AE (a=b):=by
 by_cases e:a=b
 ·subst e;simp
 ·have h:¬(GD a:Key)=GD b:=λq=>e (Sum.inr.inj q);rw[decide_eq_false h,decide_eq_false e]
def b31(a:Int)(b:Str):AE (GC a=GD b)=AH:=decide_eq_false λq=>nomatch q
def cc0(a:Str)(b:Int):AE (GD a=GC b)=AH:=decide_eq_false λq=>nomatch q
abbrev E8(prog:Ah)(w:Aq):PySem.KeyKind prog w Key where
 is:=N0
 hash:=cy3 w
 inj:=λv a b ha hb=>by
  rcases A5 ha with⟨i,t,rfl,rfl⟩|⟨x,t,rfl,rfl⟩
  ·rcases A5 hb with⟨j,u,rfl,e⟩|⟨y,u,rfl,e⟩
   ·injection e with e1 _;rw[e1]
   ·exact nomatch e
  ·rcases A5 hb with⟨j,u,rfl,e⟩|⟨y,u,rfl,e⟩
   ·exact nomatch e
   ·injection e with e1 _;rw[e1]
 byValue:=λk v h=>by
  rcases A5 h with⟨i,t,rfl,rfl⟩|⟨x,t,rfl,rfl⟩<;>rfl
 pyHash:=λhv h=>by
  rcases A5 hv with⟨i,t,rfl,rfl⟩|⟨x,t,rfl,rfl⟩
  ·exact Gy h
  ·exact FC h
 eqBool:=λhu hv h=>by
  rcases A5 hu with⟨i,t,rfl,rfl⟩|⟨x,t,rfl,rfl⟩
  ·rcases A5 hv with⟨j,u,rfl,rfl⟩|⟨y,u,rfl,rfl⟩
   ·rw[b46]at h;exact wpAny_eqBool_int h
   ·rw[b31]at h;exact SeqAt.EqAt.int_str i t y u _ _ _ _ h
  ·rcases A5 hv with⟨j,u,rfl,rfl⟩|⟨y,u,rfl,rfl⟩
   ·rw[cc0]at h;exact SeqAt.EqAt.str_int x t j u _ _ _ _ h
   ·rw[cb0]at h;exact wpAny_eqBool_str h
 «strs»:=λk x t v h=>by
  rcases A5 h with⟨i,u,rfl,e⟩|⟨y,u,rfl,e⟩
  ·exact nomatch e
  ·injection e with e1 _
   subst e1;cases v<;>rfl
def bd0 prog(w)(i)t:(E8 prog w).is (.inl i) (.int i t)=AB:=bh5 i t
def bd3 prog(w)(x)t:(E8 prog w).is (.inr x) (.str x t)=AB:=bg8 x t
variable{a b:AI}{h h':Heap}{P:Ah}
inductive V where
 |non|bl (b:Bool)|int (i:Int)|str (x:Str)|byt (b:Array UInt8)|flt (b:UInt64)|ref (a:AI)|ty (n:String)
 deriving DecidableEq
abbrev c8:V->AG->Prop
 |.non,u=>u=Bh
 |.bl b,u=>u=FS b
 |.int i,u=>∃t,u=Da i t
 |.str x,u=>∃t,u=EY x t
 |.byt b,u=>∃t,u=Jj b t
 |.flt b,u=>∃t,u=He b t
 |.ref a,u=>u=Az a
 |.ty n,u=>u=Db n
@[reducible]noncomputable def c0:List V->List AG->Prop:=Paired c8
theorem c0.length{xs}{us}(r:c0 xs us):xs.length=us.length:=Paired.length r
theorem c0.get:∀{xs}{us}{i:Nat}{x},c0 xs us->xs[i]?=AA x->∃u,us[i]?=AA u/\c8 x u
 |_,_,_,_,.nil,e=>by simp at e
 |_,_,0,_,.cons r _,e=>by simp_all
 |_,_,i+1,x,.cons _ t,e=>by
  obtain⟨u,h1,h2⟩:=c0.get t (by simpa using e);simp_all
theorem c0.set{x}{u}(r:c8 x u):∀{xs}{us}i,c0 xs us->c0 (xs.set i x) (us.set i u)
 |_,_,_,.nil=>.nil
 |_,_,0,.cons _ t=>.cons r t
 |_,_,i+1,.cons q t=>.cons q (c0.set r i t)
theorem c0.append:∀{xs ys}{us ws},c0 xs us->c0 ys ws->c0 (xs++ys) (us++ws)
 |_,_,_,_,.nil,s=>s
 |_,_,_,_,.cons r t,s=>.cons r (c0.append t s)
theorem c0.take:∀{xs}{us}n,c0 xs us->c0 (xs.take n) (us.take n)
 |_,_,0,_=>.nil
 |_,_,_+1,.nil=>.nil
 |_,_,n+1,.cons r t=>.cons r (c0.take n t)
theorem c0.drop:∀{xs}{us}n,c0 xs us->c0 (xs.drop n) (us.drop n)
 |_,_,0,r=>r
 |_,_,_+1,.nil=>.nil
 |_,_,n+1,.cons _ t=>c0.drop n t
abbrev t8:Option V->Option AG->Prop
 |some v,AA u=>c8 v u
 |none,AC=>True
 |_,_=>False
abbrev KV{κ:Type}:List (κ×V)->List (κ×AG)->Prop:=Paired λ(p:κ×V)(q:κ×AG)=>p.1=q.1/\c8 p.2 q.2
abbrev kV:Key->V
 |.inl i=>.int i
 |.inr x=>.str x
inductive HO where
 |lst (xs:List V)
 |tup (xs:List V)
 |dK (kvs:List (Key×V))|dT (kvs:List (Ap×V))
 |set (S:Int->Bool) (n:Nat)
 |ins (C dx:AI) (fs:List (Str×V))
 |own (x:AI)
 |xd (fs:List (Str×V))
 |met (f x:AI)
 |rng (lo hi:Int)
 |frz (o:Obj) (u:HO)
 |tbl (ps:Array AG)
 |ext (φ:Heap->Prop)
variable{o:HO}
@[reducible]noncomputable def Hp:=AI->Option HO
variable{H:Hp}
abbrev upd(H:Hp)(a:AI)(o:HO):Hp:=λb=>if b=a then AA o else H b
def n0:upd H a o a=AA o:=by unfold upd;rw[if_pos rfl]
def e8(h:b≠a):upd H a o b=H b:=by unfold upd;rw[if_neg h]
def cl6{u}(h:H a=AA o)(h':H b=AA u)(d:o≠u):a≠b:=by
 intro e;simp_all
def o6(h:H a=AA o)(h':H b=AC):a≠b:=by
 grind
mutual
noncomputable def HRd(H:Hp):Ap->V->Prop
 |.int i,v=>v=.int i
 |.str x,v=>v=.str x
 |.tuple ds,v=>∃a vs,v=.ref a/\H a=AA (.tup vs)/\E4 H ds vs
 |_,_=>False
noncomputable def E4(H:Hp):List Ap->List V->Prop
 |[],vs=>vs=[]
 |d::ds,vs=>∃v r,vs=v::r/\HRd H d v/\E4 H ds r
end
mutual
theorem HRd.keeps{H H':Hp}(ht:∀b ys,H b=AA (.tup ys)->H' b=AA (.tup ys)):∀(d:Ap){v:V},HRd H d v->HRd H' d v
 |.int i,v,h=>h
 |.str x,v,h=>h
 |.tuple ds,v,h=>let⟨a,vs,e,h1,h2⟩:=h;⟨a,vs,e,ht a vs h1,E4.keeps ht ds h2⟩
 |.none,_,h=>h.elim
 |.bool _,_,h=>h.elim
 |.list _,_,h=>h.elim
 |.dict _,_,h=>h.elim
theorem E4.keeps{H H':Hp}(ht:∀b ys,H b=AA (.tup ys)->H' b=AA (.tup ys)):∀(ds:List Ap){vs:List V},E4 H ds vs->E4 H' ds vs
 |[],vs,h=>h
 |d::ds,vs,h=>let⟨v,r,e,h1,h2⟩:=h;⟨v,r,e,HRd.keeps ht d h1,E4.keeps ht ds h2⟩
end
abbrev C4(H:Hp)(d:Ap)(b:AI):Prop:=NK.lit d=AB/\d.depth<=7/\HRd H d (.ref b)
theorem C4.keeps{H'}{d}(h:C4 H d b)(ht:∀b ys,H b=AA (.tup ys)->H' b=AA (.tup ys)):C4 H' d b:=⟨h.1,h.2.1,HRd.keeps ht d h.2.2⟩
abbrev v3(h:Heap)(a:AI)(items:Array AG):Prop:=∃o,h.get? a=AA o/\o.cls=.type "tuple"/\o.dict=AC/\∃n,o.data=.seq items n
def v3.tup{items}(x:v3 h a items):Kj h a items:=let⟨o,e,c,_,d⟩:=x;⟨o,e,c,d⟩
def v3.lt{items}(x:v3 h a items):=let⟨_,e,_⟩:=x;Ar e
def v3.new(h:Heap)items:v3 (h.push {cls:=.type "tuple",data:=.seq items}) h.objs.size items:=⟨_,Ai _ rfl,rfl,rfl,_,rfl⟩
section
variable (P:Ah) (w:Aq)
abbrev i7(H:Hp)(h:Heap)(a:AI):HO->Prop
 |.lst xs=>xs.length<=sizeLine/\∃(its:List AG)(n:Nat),c0 xs its/\h.get? a=AA {cls:=.type "list",data:=.seq its.toArray n}
 |.tup xs=>xs.length<=sizeLine/\∃its:List AG,c0 xs its/\v3 h a its.toArray
 |.dK kvs=>kvs.length<=sizeLine/\(a==Cp)=AH/\∃vs,KV kvs vs/\h.DictOf (E8 P w) a vs
 |.dT kvs=>kvs.length<=sizeLine/\(a==Cp)=AH/\∃xs:List (Ap×AI×AG),
   Paired (λ(p:Ap×V)(q:Ap×AI×AG)=>p.1=q.1/\C4 H p.1 q.2.1/\c8 p.2 q.2.2) kvs xs /\
   ∃o es ep,h.get? a=AA o/\o.ExactDict/\o.data=.dict es ep/\es.toList=xs.map (entryOfKey (NK.dataKind P w))/\(xs.map (·.1)).Nodup
 |.set S n=>h.SetOf (En P w) a S n
 |.ins C dx fs=>H dx=AA (.own a)/\fs.length<=1000/\dx≠a/\h.get? a=AA (EJ C dx) /\
   ∃mA,h.Ns1 dx mA/\(∀f,t8 (fs.lookup f) (mA f))/\PySem.Within mA (fs.map (·.1))
 |.own _=>∃o,h.get? a=AA o
 |.xd fs=>∃mA,h.Ns1 a mA/\∀f,t8 (fs.lookup f) (mA f)
 |.rng lo hi=>∃t u v,h.get? a=AA {cls:=.type "range",data:=.fields #[.int lo t,.int hi u,.int 1 v]}
 |.frz o u=>h.get? a=AA o/\i7 H h a u
 |.tbl ps=>h.get? a=AA {cls:=.none,data:=.fields ps}
 |.met f x=>h.get? a=AA (IX (.ref f) (.ref x))
 |.ext φ=>φ h/\(∃o,h.get? a=AA o)/\∀h1 h2:Heap,φ h1->(∀o,h1.get? a=AA o->h2.get? a=AA o)->φ h2
abbrev HOk(H:Hp)(h:Heap):Prop:=∀a o,H a=AA o->i7 P w H h a o
end
section
variable {w:Aq} {H':Hp} 
theorem i7.lt(x:i7 P w H h a o):a<h.objs.size:=by
 cases o with
 |lst xs=>obtain⟨_,_,_,_,e⟩:=x;exact Ar e
 |tup xs=>obtain⟨_,_,_,p⟩:=x;exact p.lt
 |dK kvs=>obtain⟨_,_,_,_,o,_,_,e,_⟩:=x;exact Ar e
 |dT kvs=>obtain⟨_,_,_,_,o,_,_,e,_⟩:=x;exact Ar e
 |set S n=>obtain⟨o,_,_,_,e,_⟩:=x;exact Ar e
 |ins C dx fs=>obtain⟨_,_,_,e,_⟩:=x;exact Ar e
 |own y=>obtain⟨_,e⟩:=x;exact Ar e
 |xd fs=>obtain⟨_,⟨_,_,_,e,_⟩,_⟩:=x;exact Ar e
 |rng lo hi=>obtain⟨_,_,_,e⟩:=x;exact Ar e
 |frz ob u=>obtain⟨e,_⟩:=x;exact Ar e
 |tbl ps=>exact Ar ((x))
 |met f y=>exact Ar ((x))
 |ext φ=>obtain⟨_,⟨_,e⟩,_⟩:=x;exact Ar e
theorem Paired.mapP{α β}{F G}:∀{l₁:List α}{l₂:List β},Paired F l₁ l₂->(∀a b,F a b->G a b)->Paired G l₁ l₂
 |_,_,.nil,_=>.nil
 |_,_,.cons r t,f=>.cons (f _ _ r) (Paired.mapP t f)
def i7.stay(x:i7 P w H h a o)(k:∀b u,b=a\/H b=AA (.own a)->h.get? b=AA u->h'.get? b=AA u)
  (ho:∀b,H b=AA (.own a)->H' b=AA (.own a)) (ht:∀b xs,H b=AA (.tup xs)->H' b=AA (.tup xs)):i7 P w H' h' a o:=by
 induction o with
 |lst xs=>obtain⟨z,its,n,r,e⟩:=x;exact⟨z,its,n,r,k _ _ (.inl rfl) e⟩
 |tup xs=>obtain⟨z,its,r,ob,e,c⟩:=x;exact⟨z,its,r,ob,k _ _ (.inl rfl) e,c⟩
 |dK kvs=>obtain⟨z,y,vs,r,ob,es,ep,e,c⟩:=x;exact⟨z,y,vs,r,ob,es,ep,k _ _ (.inl rfl) e,c⟩
 |dT kvs=>
  obtain⟨z,y,xs,r,ob,es,ep,e,c⟩:=x;exact⟨z,y,xs,Paired.mapP r λp q z=>⟨z.1,z.2.1.keeps ht,z.2.2⟩,ob,es,ep,k _ _ (.inl rfl) e,c⟩
 |set S n=>obtain⟨ob,es,ep,t,e,c⟩:=x;exact⟨ob,es,ep,t,k _ _ (.inl rfl) e,c⟩
 |ins C dx fs=>
  obtain⟨d,z,ne,e,mA,⟨od,es,ep,e2,c⟩,r⟩:=x;exact⟨ho _ d,z,ne,k _ _ (.inl rfl) e,mA,⟨od,es,ep,k _ _ (.inr d) e2,c⟩,r⟩
 |own y=>obtain⟨ob,e⟩:=x;exact⟨ob,k _ _ (.inl rfl) e⟩
 |xd fs=>obtain⟨mA,⟨od,es,ep,e,c⟩,r⟩:=x;exact⟨mA,⟨od,es,ep,k _ _ (.inl rfl) e,c⟩,r⟩
 |rng lo hi=>obtain⟨t,u,v,e⟩:=x;exact⟨t,u,v,k _ _ (.inl rfl) e⟩
 |frz ob u ih=>obtain⟨e,q⟩:=x;exact⟨k _ _ (.inl rfl) e,ih q⟩
 |tbl ps=>
  have e:=x;exact k a _ (.inl rfl) e
 |met f y=>
  have e:=x;exact k a _ (.inl rfl) e
 |ext φ=>obtain⟨p,⟨o,e⟩,st⟩:=x;exact⟨st _ _ p λo=>k _ _ (.inl rfl),⟨o,k _ _ (.inl rfl) e⟩,st⟩
theorem HOk.lt(x:HOk P w H h)(e:H a=AA o):a<h.objs.size:=(x a o e).lt
def HOk.fresh(x:HOk P w H h)(e:h.objs.size<=a):H a=AC:=by
 cases q:H a with
 |none=>rfl
 |some u=>exact absurd (Ab (x.lt q) e) (DW _)
def HOk.kept(x:HOk P w H h)(k:∀b u,h.get? b=AA u->h'.get? b=AA u):HOk P w H h':=λa o e=>
 (x a o e).stay (λb u _=>k b u) (λ_ q=>q) λ_ _ q=>q
def HOk.laid(x:HOk P w H h)(k:∀b u,h.get? b=AA u->h'.get? b=AA u)(hp:h.objs.size<=a)(new:i7 P w (upd H a o) h' a o):HOk P w (upd H a o) h':=λb u e=>by
 have hn:=x.fresh hp
 by_cases hb:b=a
 ·subst hb;rw[n0]at e;cases e;exact new
 ·rw[e8 hb]at e;exact(x b u e).stay (λc v _=>k c v) (λc q=>(e8 (o6 q hn)▸q)) λc xs q=>e8 (o6 q hn)▸q
end
abbrev Rd(H:Hp)(a:AI)(u:HO):Prop:=H a=AA u\/∃o,H a=AA (.frz o u)
def Rd.ok{w:Aq}{u:HO}(r:Rd H a u)(x:HOk P w H h):i7 P w H h a u:=by
 rcases r with r|⟨o,r⟩
 ·exact x a u r
 ·obtain⟨_,q⟩:=x a _ r;exact q
abbrev Mut:Option HO->Prop
 |some (.lst _)=>True
 |some (.dK _)=>True
 |some (.dT _)=>True
 |some (.set _ _)=>True
 |some (.ins _ _ _)=>True
 |some (.ext _)=>True
 |_=>False
section
variable {w:Aq} {x e:AI} {o':HO}
def HOk.write(ok:HOk P w H h)(mu:Mut (H x))(he:e=x\/H e=AA (.own x))(k:∀b u,b≠e->h.get? b=AA u->h'.get? b=AA u)(heo:∃u,h'.get? e=AA u)
  (new:i7 P w (upd H x o') h' x o'):HOk P w (upd H x o') h':=λb u q=>by
 have nown:∀c y,H c=AA (.own y)->c≠x:=λc y r z=>by subst z;rwa[r]at mu
 have ntup:∀c xs,H c=AA (.tup xs)->c≠x:=λc xs r z=>by subst z;rwa[r]at mu
 by_cases hb:b=x
 ·subst hb;rw[n0]at q;cases q;exact new
 ·rw[e8 hb]at q
  by_cases hbe:b=e
  ·have q':H b=AA (.own x):=by
    lia
   rw[q]at q';cases q';obtain⟨v,hv⟩:=heo;exact⟨v,by simp_all⟩
  ·refine(ok b u q).stay (λc v hc=>k c v ?_) (λc r=>(e8 (nown c b r)▸r)) λc xs r=>(e8 (ntup c xs r)▸r)
   rcases hc with rfl|hc
   ·exact hbe
   ·grind
end
structure Un(fs ex:List AI)(H H':Hp)(h h':Heap):Prop where
 keep:∀b o,h.get? b=AA o->H b=AC->b∉fs->b∉ex->h'.get? b=AA o
 slot:∀b o,h.get? b=AA o->H b=AC->b∈fs->b∉ex->∃sl,h'.get? b=AA {o with slots:=sl}
 free:∀b o,h.get? b=AA o->H b=AC->b∉ex->H' b=AC
 there:∀b o,h.get? b=AA o->b∉ex->∃o',h'.get? b=AA o'
 tups:∀b xs,H b=AA (.tup xs)->H' b=AA (.tup xs)
 frzs:∀b o u,H b=AA (.frz o u)->H' b=AA (.frz o u)
 tbls:∀b ps,H b=AA (.tbl ps)->∃more,H' b=AA (.tbl (ps++more))
section
variable {fs fs' ex ex':List AI} {H1 H2:Hp} {h1 h2:Heap} {x e:AI} 
def Un.any(u:Un fs ex H H1 h h1){ob}q(n)hx:=by
 by_cases hb:b∈fs
 ·exact u.slot b ob q n hb hx
 ·exact⟨ob.slots,u.keep b ob q n hb hx⟩
def Un.kept(k:∀b u,h.get? b=AA u->h'.get? b=AA u):Un fs ex H H h h':=
 ⟨λb ob q _ _ _=>k b ob q,λb ob q _ _ _=>⟨ob.slots,k b ob q⟩,λ_ _ _ n _=>n,λb ob q _=>⟨ob,k b ob q⟩,λ_ _ q=>q,λ_ _ _ q=>q,λ_ ps q=>⟨#[],by rw[q];simp⟩⟩
def Un.refl:Un fs ex H H h h:=Un.kept λ_ _ q=>q
def Un.laid(k:∀b u,h.get? b=AA u->h'.get? b=AA u)(hp:h.objs.size<=a)(hn:H a=AC):Un fs ex H (upd H a o) h h' where
 keep:=λb u q _ _ _=>k b u q
 slot:=λb u q _ _ _=>⟨u.slots,k b u q⟩
 free:=λb u q n _=>e8 (BE (Ab (Ar q) hp))▸n
 there:=λb u q _=>⟨u,k b u q⟩
 tups:=λb xs q=>e8 (o6 q hn)▸q
 frzs:=λb u xs q=>e8 (o6 q hn)▸q
 tbls:=λb ps q=>⟨#[],by rw[e8 (o6 q hn),q];simp⟩
def Un.write(mu:Mut (H x))(he:e=x\/H e=AA (.own x))(k:∀b u,b≠e->h.get? b=AA u->h'.get? b=AA u)(heo:∃u,h'.get? e=AA u):Un fs ex H (upd H x o) h h':=by
 have hx:∀b,H b=AC->b≠x:=λb n z=>by subst z;rw[n]at mu;exact mu
 have hb:∀b,H b=AC->b≠e:=λb n z=>by
  simp_all
 have hm:∀b u,H b=AA u->¬Mut (AA u)->b≠x:=λb u q nm z=>by subst z;rw[q]at mu;exact nm mu
 refine⟨λb u q n _ _=>k b u (hb b n) q,λb u q n _ _=>⟨u.slots,k b u (hb b n) q⟩,λb u q n _=>by rw[e8 (hx b n)];exact n,λb u q _=>?_,
  λb xs q=>by rw[e8 (hm b _ q λz=>z)];exact q,λb u xs q=>by rw[e8 (hm b _ q λz=>z)];exact q,λb ps q=>⟨#[],by rw[e8 (hm b _ q λz=>z),q];simp⟩⟩
 by_cases hbe:b=e
 ·simp_all
 ·exact⟨u,k b u hbe q⟩
end
abbrev trk(h:Heap)(H:Hp):List AI:=(BG h.objs.size).filter λa=>(H a).isSome
abbrev z9(h:Heap)(H:Hp):Heap:=W.hideAll h (trk h H)
def bj2(h)H:(z9 h H).objs.size=h.objs.size:=W.hideAll_size _ _
def bl7{o}(e:h.get? b=AA o)(n:H b=AC):(z9 h H).get? b=AA o:=
 W.hideAll_get _ e λhm=>by
  have q:=(mem_filter.mp hm).2;rw[n]at q;simp at q
def bt1{o}(e:(z9 h H).get? b=AA o):h.get? b=AA o/\H b=AC:=by
 have e':=W.of_hideAll (trk h H) e;refine⟨e',?_⟩;cases q:H b with
 |none=>rfl
 |some x=>
  have hm:b∈trk h H:=mem_filter.mpr ⟨Do.mpr (Ar e'),by simp[q]⟩;have z:(z9 h H).get? b=AC:=W.hideAll_none (trk h H) hm;rw[z]at e;cases e
abbrev bx3(g h:Heap)(L:AI):List (AI×Obj):=(BG h.objs.size).filterMap λa=>if a=L\/(g.get? a).isSome=AB then AC else(h.get? a).map λo=>(a,o)
abbrev d7(g h:Heap)(L d:AI):List (AI×Obj):=(bx3 g h L).filter λp=>AE (p.1≠d)
end L2
namespace L2
open PySem PySem.Spec PyProof.Rows
variable{x:Str}{i:Nat}
structure Mod(K:AN)(mg:Str->Option AG)(base:Heap):Prop where
 kin:K.In base
 glob:base.Ns AO mg
 blt:∃mb,base.Ns Cq mb/\∀x:Str,x≠"__name__"->mb x=BK x
 nolimit:base.NoLimit
structure Cx where
 prog:Ah
 w:Aq
 K:AN
 mg:Str->Option AG
 base:Heap
 A:BP
 N:List Str
 s₀:AL
 H₀:Hp
 env:Env
 outer:List Env
 stack:List Env
 ex:List AI
 fn:Str->Bool
 calm:Bool
 pn:List (AI×Obj)
 xe:AG->AL->Prop
 ow:Str->Bool:=λ_=>AH
abbrev frs(l:List Env):List AI:=l.filterMap (·.frame)
@[reducible]noncomputable def Cx.fs(X:Cx):List AI:=frs X.outer
abbrev Vis(sc:BB)(x:Str):Prop:=sc.names.lookup x=AA .local\/sc.names.lookup x=AA .cell\/sc.names.lookup x=AA .free
abbrev Loc(sc:BB)(x:Str):Prop:=sc.names.lookup x=AA .local\/sc.names.lookup x=AA .cell
abbrev cv6(env:Env)(h:Heap)(m:Str->Option AG)(x:Str)(u:AG):Prop:=
 (env.kindOf x=AA .local/\m x=AA u)\/((env.kindOf x=AA .cell\/env.kindOf x=AA .free)/\∃c,env.cells.lookup x=AA c/\h.IsCell c (AA u))
structure Cx.Ok(X:Cx):Prop where
 mod:Mod X.K X.mg X.base
 kind:X.env.scope.kind=.function
 glob:X.env.globals=AO
 blt:X.env.builtins=Cq
 above:X.s₀.heap.objs.size<=X.env.locals
 inj:∀x y c,X.env.cells.lookup x=AA c->X.env.cells.lookup y=AA c->x=y
 has:∀x,(X.env.kindOf x=AA .cell\/X.env.kindOf x=AA .free)->∃c,X.env.cells.lookup x=AA c
 cab:∀x c,X.fn x=AB\/X.ow x=AB->X.env.cells.lookup x=AA c->X.s₀.heap.objs.size<=c
 hd:X.calm=AB->X.A.handled=AC
 frames:X.A.frames=AA X.stack
 stk:X.stack=X.outer\/(X.stack=X.env::X.outer/\X.env.frame=AA X.env.locals)
 exf:∀b∈X.ex,b≠X.env.locals/\∀x c,X.env.cells.lookup x=AA c->c≠b
 bs:∀b o,X.base.get? b=AA o->X.s₀.heap.get? b=AA o/\X.H₀ b=AC
 bsz:X.base.objs.size<=X.s₀.heap.objs.size
 noex:∀b o,X.base.get? b=AA o->b∉X.ex
 exfs:∀b∈X.ex,b∉X.fs
 funs:X.s₀.heap.FunFrames X.base X.outer
 frf:∀b∈X.fs,X.H₀ b=AC
structure Inv(X:Cx)(pins:List (AI×Obj))(σ:List (Option V))(H:Hp)(s:AL):Prop where
 ok:X.Ok
 os:s.os=X.s₀.os
 bare:Ge s.gens
 base:Un X.fs X.ex X.H₀ H X.s₀.heap s.heap
 loc:∃m,s.heap.Ns X.env.locals m/\∀(i:Nat)(x:Str)(v:V),X.N[i]?=AA x->σ[i]?=AA (AA v)->Vis X.env.scope x->∃u,c8 v u/\cv6 X.env s.heap m x u
 cell:∀x c,X.env.cells.lookup x=AA c->∃v,s.heap.IsCell c v
 free:H X.env.locals=AC
 freeC:∀x c,X.env.cells.lookup x=AA c->H c=AC\/(X.fn x=AH/\∃o u,H c=AA (.frz o u))
 pin:∀p∈X.pn++pins,s.heap.get? p.1=AA p.2/\H p.1=AC/\p.1≠X.env.locals/\p.1∉X.fs/\∀v,p.2.data≠.cell v
 hok:HOk X.prog X.w H s.heap
 len:σ.length=X.N.length
section
variable {X:Cx} {pins:List (AI×Obj)} {σ:List (Option V)} {H H':Hp} {s:AL} {h':Heap}
def Cx.Ok.nofr(ok:X.Ok){b}{o}(e:X.base.get? b=AA o):b∉X.fs:=λhb=>by
 have:=(ok.funs.mem hb).1;rw[e]at this;cases this
theorem Inv.bs(I:Inv X pins σ H s):∀b o,X.base.get? b=AA o->s.heap.get? b=AA o/\H b=AC:=λb o e=>
 ⟨I.base.keep b o (I.ok.bs b o e).1 (I.ok.bs b o e).2 (I.ok.nofr e) (I.ok.noex b o e),I.base.free b o (I.ok.bs b o e).1 (I.ok.bs b o e).2 (I.ok.noex b o e)⟩
def Inv.bk(I:Inv X pins σ H s):∀b o,X.base.get? b=AA o->s.heap.get? b=AA o:=λb o e=>(I.bs b o e).1
theorem Inv.mod(I:Inv X pins σ H s):Mod X.K X.mg X.base:=I.ok.mod
def Inv.kIn(I:Inv X pins σ H s):=I.ok.mod.kin.keeps I.bk
theorem Inv.lt(I:Inv X pins σ H s):X.env.locals<s.heap.objs.size:=let⟨_,hn,_⟩:=I.loc;hn.lt
def Inv.sz(I:Inv X pins σ H s):=Ay I.ok.above (DJ I.lt)
def Inv.nofs(I:Inv X pins σ H s){a:AI}(h:s.heap.objs.size<=a):a∉X.fs:=λhb=>by
 obtain⟨_,o,ho,_⟩:=I.ok.funs.mem hb;exact absurd (Ab (Ar ho) (Ay I.sz h)) (DW _)
def Inv.cne(I:Inv X pins σ H s):∀x c,X.env.cells.lookup x=AA c->c≠X.env.locals:=λx c e z=>by
 obtain⟨v,o,ho,hd⟩:=I.cell x c e;obtain⟨m,⟨o',es,ep,ho',hd',_⟩,_⟩:=I.loc;grind
theorem Inv.funs(I:Inv X pins σ H s):s.heap.FunFrames X.base X.outer:=by
 have all:∀l,(∀b∈frs l,b∈X.fs)->X.s₀.heap.FunFrames X.base l->s.heap.FunFrames X.base l:=by
  intro l
  induction l with
  |nil=>intro _ _;trivial
  |cons env r ih=>
   intro hs hl;obtain⟨hk,⟨L,o,hf,hn,ho,hd⟩,hr⟩:=hl;have hL:=hs L (by unfold frs;rw[CT,hf];exact Bl);obtain⟨sl,e⟩:=I.base.slot L o ho (I.ok.frf L hL) hL λz=>I.ok.exfs L z hL;exact⟨hk,⟨L,_,hf,hn,e,hd⟩,ih (λb hb=>hs b (by unfold frs;rw[CT,hf];exact BA _ hb)) hr⟩
 exact all X.outer (λ_ hb=>hb) I.ok.funs
theorem Inv.stack(I:Inv X pins σ H s):s.heap.FunFrames X.base X.stack:=by
 rcases I.ok.stk with e|⟨e,hf⟩
 ·rw[e];exact I.funs
 ·rw[e];obtain⟨m,hn,_⟩:=I.loc;refine .cons (by rw[I.ok.kind];decide) hf hn ?_ I.funs;exact Heap.get?_none_of_le (Ay I.ok.bsz I.ok.above)
def Inv.stkSub(I:Inv X pins σ H s):∀b∈frs X.stack,b∈X.env.locals::X.fs:=λb hb=>by
 rcases I.ok.stk with e|⟨e,hf⟩
 ·rw[e]at hb;exact BA _ hb
 ·rw[e]at hb;unfold frs at hb;rwa[CT,hf]at hb
def Inv.stkFree(I:Inv X pins σ H s):∀b∈frs X.stack,H b=AC:=λb hb=>by
 rcases Ae.mp (I.stkSub b hb)with e|hb
 ·rw[e];exact I.free
 ·obtain⟨_,o,ho,_⟩:=I.ok.funs.mem hb;exact I.base.free b o ho (I.ok.frf b hb) λz=>I.ok.exfs b z hb
def Inv.step{g':Array GenState}{t':Nat}{d':Drawn}{ch:List AI}(I:Inv X pins σ H s)
  (hch:∀b∈ch,(b∈X.ex\/X.s₀.heap.objs.size<=b)/\b≠X.env.locals/\(∀x c,X.env.cells.lookup x=AA c->c≠b)/\∀p∈X.pn++pins,p.1≠b)
  (keep:∀b o,b≠X.env.locals->b∉X.fs->b∉ch->s.heap.get? b=AA o->H b=AC->h'.get? b=AA o)
  (slot:∀b o,b≠X.env.locals->b∈X.fs->b∉ch->s.heap.get? b=AA o->H b=AC->∃sl,h'.get? b=AA {o with slots:=sl}) (free:∀b o,b∉ch->s.heap.get? b=AA o->H b=AC->H' b=AC)
  (there:∀b o,b∉ch->s.heap.get? b=AA o->∃o',h'.get? b=AA o')
  (tups:∀b xs,H b=AA (.tup xs)->H' b=AA (.tup xs)) (frzs:∀b o u,H b=AA (.frz o u)->H' b=AA (.frz o u)) (tbls:∀b ps,H b=AA (.tbl ps)->∃more,H' b=AA (.tbl (ps++more)))
  (ns:∀m,s.heap.Ns X.env.locals m->h'.Ns X.env.locals m) (hok:HOk X.prog X.w H' h') (hg:Ge g') :
  Inv X pins σ H' {s with heap:=h',gens:=g',drawn:=d',toks:=t'}:=by
 have neL:∀b o,X.s₀.heap.get? b=AA o->b≠X.env.locals:=λb o e=>BE (Ab (Ar e) I.ok.above);have neC:∀b o,X.s₀.heap.get? b=AA o->b∉X.ex->b∉ch:=λb o e hx hb=>by
  rcases(hch b hb).1 with z|z
  ·exact hx z
  ·exact absurd (Ab (Ar e) z) (DW _)
 have cellK:∀x c,X.env.cells.lookup x=AA c->∀v,s.heap.IsCell c v->h'.IsCell c v:=λx c e v⟨o,ho,hd⟩=>by
  have nch:c∉ch:=λz=>(hch c z).2.2.1 x c e rfl
  rcases I.freeC x c e with hfr|⟨_,oz,uz,hz⟩
  ·by_cases hc:c∈X.fs
   ·obtain⟨sl,q⟩:=slot c o (I.cne x c e) hc nch ho hfr;exact⟨_,q,hd⟩
   ·exact⟨o,keep c o (I.cne x c e) hc nch ho hfr,hd⟩
  ·obtain⟨h1,_⟩:=I.hok c _ hz;obtain⟨h2,_⟩:=hok c _ (frzs c oz uz hz);rw[h1]at ho;cases ho;exact⟨_,h2,hd⟩
 refine⟨I.ok,I.os,hg,⟨λb o e n hb hx=>?_,λb o e n hb hx=>?_,λb o e n hx=>?_,λb o e hx=>?_,λb xs e=>tups b xs (I.base.tups b xs e),λb o xs e=>frzs b o xs (I.base.frzs b o xs e),λb ps e=>?_⟩,?_,λx c e=>?_,?_,λx c e=>?_,λp hp=>?_,hok,I.len⟩
 ·exact keep b o (neL b o e) hb (neC b o e hx) (I.base.keep b o e n hb hx) (I.base.free b o e n hx)
 ·obtain⟨sl,e1⟩:=I.base.slot b o e n hb hx;obtain⟨sl',e2⟩:=slot b _ (neL b o e) hb (neC b o e hx) e1 (I.base.free b o e n hx);exact⟨sl',e2⟩
 ·obtain⟨o',e1⟩:=I.base.there b o e hx;exact free b o' (neC b o e hx) e1 (I.base.free b o e n hx)
 ·obtain⟨o',e1⟩:=I.base.there b o e hx;exact there b o' (neC b o e hx) e1
 ·obtain⟨m1,e1⟩:=I.base.tbls b ps e;obtain⟨m2,e2⟩:=tbls b _ e1;exact⟨m1++m2,by rw[e2,Array.append_assoc]⟩
 ·obtain⟨m,hn,hl⟩:=I.loc;refine⟨m,ns m hn,λi x v e1 e2 e3=>?_⟩;obtain⟨u,r,l⟩:=hl i x v e1 e2 e3;refine⟨u,r,?_⟩
  rcases l with l|⟨k,c,e,z⟩
  ·exact .inl l
  ·exact .inr ⟨k,c,e,cellK x c e _ z⟩
 ·obtain⟨v,z⟩:=I.cell x c e;exact⟨v,cellK x c e v z⟩
 ·obtain⟨m,⟨o,_,_,ho,_⟩,_⟩:=I.loc;exact free _ o (λz=>(hch _ z).2.1 rfl) ho I.free
 ·obtain⟨v,o,ho,hd⟩:=I.cell x c e
  rcases I.freeC x c e with hfr|⟨hfn,oz,uz,hz⟩
  ·exact .inl (free c o (λz=>(hch c z).2.2.1 x c e rfl) ho hfr)
  ·exact .inr ⟨hfn,oz,uz,frzs c oz uz hz⟩
 ·obtain⟨e,n,ne,nf,d⟩:=I.pin p hp;have nch:p.1∉ch:=λz=>(hch p.1 z).2.2.2 p hp rfl;exact⟨keep p.1 p.2 ne nf nch e n,free p.1 p.2 nch e n,ne,nf,d⟩
def Inv.un{t'}(I:Inv X pins σ H s)(u:Un X.fs [] H H' s.heap h')(hok:HOk X.prog X.w H' h'):Inv X pins σ H' {s with heap:=h',toks:=t'}:=by
 obtain⟨m,⟨o,es,ep,ho,r⟩,_⟩:=id I.loc;obtain⟨sl,hL⟩:=u.any ho I.free ∎;exact I.step (ch:=[]) (λ_ z=>nomatch z) (λb o _ hb _ e n=>u.keep b o e n hb ∎) (λb o _ hb _ e n=>u.slot b o e n hb ∎) (λb o _ e n=>u.free b o e n ∎) (λb o _ e=>u.there b o e ∎) u.tups u.frzs u.tbls (λm' hm=>by
  obtain⟨o',es',ep',ho',r'⟩:=hm;rw[ho]at ho';cases ho';exact⟨_,es',ep',hL,r'⟩) hok I.bare
def Inv.call{g'}{t'}{d'}{ch}(I:Inv X pins σ H s)(u:Un (frs X.stack) ch H H' s.heap h')(hok:HOk X.prog X.w H' h')(hg:Ge g')
  (hch:∀b∈ch,(b∈X.ex\/X.s₀.heap.objs.size<=b)/\b≠X.env.locals/\(∀x c,X.env.cells.lookup x=AA c->c≠b)/\∀p∈X.pn++pins,p.1≠b) :
  Inv X pins σ H' {s with heap:=h',gens:=g',drawn:=d',toks:=t'}:=by
 obtain⟨m,⟨o,es,ep,ho,r⟩,_⟩:=id I.loc;obtain⟨sl,hL⟩:=u.any ho I.free λz=>(hch _ z).2.1 rfl;exact I.step hch (λb o hL hb hc e n=>u.keep b o e n (λz=>(Ae.mp (I.stkSub b z)).elim hL hb) hc) (λb o _ _ hc e n=>u.any e n hc) (λb o hc e n=>u.free b o e n hc) (λb o hc e=>u.there b o e hc) u.tups u.frzs u.tbls (λm' hm=>by
  obtain⟨o',es',ep',ho',r'⟩:=hm;rw[ho]at ho';cases ho';exact⟨_,es',ep',hL,r'⟩) hok hg
def Inv.turned{t'}{it}(I:Inv X pins σ H s)(k:∀b o,b≠it->s.heap.get? b=AA o->h'.get? b=AA o)(hn:H it=AC)(hL:it≠X.env.locals)
  (h1:it∈X.ex\/X.s₀.heap.objs.size<=it) (h2:∀x c,X.env.cells.lookup x=AA c->c≠it) (h3:∀p∈X.pn++pins,p.1≠it):Inv X pins σ H {s with heap:=h',toks:=t'}:=by
 have nit:∀b u,H b=AA u->b≠it:=λb u e z=>by grind
 refine I.step (ch:=[it]) (λb hb=>?_) (λb o _ _ hc e _=>k b o (λz=>hc (by simp[z])) e) (λb o _ _ hc e _=>⟨o.slots,k b o (λz=>hc (by simp[z])) e⟩) (λ_ _ _ _ n=>n)
  (λb o hc e=>⟨o,k b o (λz=>hc (by simp[z])) e⟩) (λ_ _ e=>e) (λ_ _ _ e=>e) (λb ps e=>⟨#[],by rw[e];simp⟩) (λm hm=>?_) (λb u e=>?_) I.bare
 ·have e:=by simpa using hb
  subst e;exact⟨h1,hL,h2,h3⟩
 ·obtain⟨o,es,ep,ho,r⟩:=hm;exact⟨o,es,ep,k _ o (DF hL) ho,r⟩
 ·refine(I.hok b u e).stay (λc v hc=>k c v ?_) (λ_ q=>q) λ_ _ q=>q
  rcases hc with z|z
  ·rw[z];exact nit b u e
  ·exact nit c _ z
def Inv.tok(I:Inv X pins σ H s)t:=I.un (t':=t) Un.refl I.hok
theorem Inv.kept{t'}(I:Inv X pins σ H s)(k:∀b u,s.heap.get? b=AA u->h'.get? b=AA u):Inv X pins σ H {s with heap:=h',toks:=t'}:=I.un (Un.kept k) (I.hok.kept k)
theorem Inv.laid{a:AI}{o}{t'}(I:Inv X pins σ H s)(k:∀b u,s.heap.get? b=AA u->h'.get? b=AA u)(hp:s.heap.objs.size<=a)(new:i7 X.prog X.w (upd H a o) h' a o):
  Inv X pins σ (upd H a o) {s with heap:=h',toks:=t'}:=I.un (Un.laid k hp (I.hok.fresh hp)) (I.hok.laid k hp new)
theorem Inv.write{x e}{o}{t'}(I:Inv X pins σ H s)(mu:Mut (H x))(he:e=x\/H e=AA (.own x))(k:∀b u,b≠e->s.heap.get? b=AA u->h'.get? b=AA u)(heo:∃u,h'.get? e=AA u)
  (new:i7 X.prog X.w (upd H x o) h' x o):Inv X pins σ (upd H x o) {s with heap:=h',toks:=t'}:=I.un (Un.write mu he k heo) (I.hok.write mu he k heo new)
def Inv.pins_of{pins'}(I:Inv X pins σ H s)(h:∀p∈pins',s.heap.get? p.1=AA p.2/\H p.1=AC/\p.1≠X.env.locals/\p.1∉X.fs/\∀v,p.2.data≠.cell v):Inv X pins' σ H s:=
 ⟨I.ok,I.os,I.bare,I.base,I.loc,I.cell,I.free,I.freeC,λp hp=>(BR.mp hp).elim (λz=>I.pin p (CI _ z)) (h p),I.hok,I.len⟩
def at3{N:List Str}(hN:N.Nodup){j}(a:N[i]?=AA x)(b:N[j]?=AA x):i=j:=by
 obtain⟨h1,e1⟩:=Ac.mp a;obtain⟨h2,e2⟩:=Ac.mp b;exact(List.getElem_inj hN).mp (e1.trans e2.symm)
def bi9{M:Model}{A:BP}{E:AG->AL->Prop}{v:V}{u:AG}{Q:Unit->AL->Prop}(I:Inv X pins σ H s)(hN:X.N.Nodup)(hi:X.N[i]?=AA x)(hx:Loc X.env.scope x)(r:c8 v u)
  (h:∀s',Inv X pins (σ.set i (AA v)) H s'->(∃a,Heap.SameBut a s.heap s'.heap/\(a=X.env.locals\/X.env.cells.lookup x=AA a))->Q () s') (hf:X.fn x=AB\/X.env.scope.names.lookup x=AA .local:=by first|exact .inl rfl|exact .inr rfl|assumption):AV M A (storeName X.env x u) Q E s:=by
 obtain⟨m,hn,hl⟩:=id I.loc;have hcls:(X.env.scope.kind==.class||(X.env.scope.kind==.module&&X.env.locals != X.env.globals))=AH:=by rw[I.ok.kind];rfl
 have hiσ:i<σ.length:=by rw[I.len];exact(Ac.mp hi).1
 have cne:=I.cne;have tracked:∀{a:AI}{h':Heap},(∃o,s.heap.get? a=AA o/\H a=AC)->Heap.SameBut a s.heap h'->HOk X.prog X.w H h':=λ{a h'}ha hs b ob e=>by
  obtain⟨_,_,hfree⟩:=ha;refine(I.hok b ob e).stay (λc w' hc q=>(hs.2 c ?_).trans q) (λ_ q=>q) λ_ _ q=>q;rintro rfl
  rcases hc with rfl|hc
  ·rw[hfree]at e;cases e
  ·rw[hfree]at hc;cases hc
 rcases hx with hk|hk
 ·refine wpAny_storeName_local hk hn (λh' hn' hs=>?_) hcls;obtain⟨oL,_,_,hoL,_⟩:=id hn;refine h _ ⟨I.ok,I.os,I.bare,⟨λb o e n hb hx=>?_,λb o e n hb hx=>?_,I.base.free,λb o e hx=>?_,I.base.tups,I.base.frzs,I.base.tbls⟩,⟨_,hn',λj y v' e1 e2 e3=>?_⟩,λy c e=>?_,I.free,I.freeC,λp hp=>?_,tracked ⟨oL,hoL,I.free⟩ hs,by simpa using I.len⟩ ⟨_,hs,.inl rfl⟩
  ·exact(hs.2 b (BE (Ab (Ar e) I.ok.above))).trans (I.base.keep b o e n hb hx)
  ·obtain⟨sl,e1⟩:=I.base.slot b o e n hb hx;exact⟨sl,(hs.2 b (BE (Ab (Ar e) I.ok.above))).trans e1⟩
  ·obtain⟨o',e1⟩:=I.base.there b o e hx;exact⟨o',(hs.2 b (BE (Ab (Ar e) I.ok.above))).trans e1⟩
  ·by_cases hj:j=i
   ·subst hj;rw[hi]at e1;cases e1;rw[HR hiσ]at e2;cases e2;exact⟨u,r,.inl ⟨hk,∎⟩⟩
   ·rw[IA (DF hj)]at e2;obtain⟨u',r',q⟩:=hl j y v' e1 e2 e3;refine⟨u',r',?_⟩
    rcases q with⟨k,e⟩|⟨k,c,e,z⟩
    ·refine .inl ⟨k,?_⟩;have:y≠x:=λe=>hj (at3 hN e1 (e▸hi));simp[this,e]
    ·exact .inr ⟨k,c,e,z.sameBut hs (cne y c e)⟩
  ·obtain⟨w',z⟩:=I.cell y c e;exact⟨w',z.sameBut hs (cne y c e)⟩
  ·obtain⟨e,n,ne,nf,d⟩:=I.pin p hp;exact⟨(hs.2 p.1 ne).trans e,n,ne,nf,d⟩
 ·have hfn:X.fn x=AB:=by
   rcases hf with z|z
   ·exact z
   ·rw[z]at hk;cases hk
  obtain⟨c,hc⟩:=I.ok.has x (.inl hk);obtain⟨w',z⟩:=I.cell x c hc;have hfree:H c=AC:=(I.freeC x c hc).resolve_right λz=>by rw[hfn]at z;exact absurd z.1 ∅
  refine wpAny_storeName_cell I.ok.kind hk hc z (λh' hc' hs=>?_);obtain⟨oc,hoc,hocd⟩:=id z;refine h {s with heap:=h'} ⟨I.ok,I.os,I.bare,⟨λb o e n hb hx=>?_,λb o e n hb hx=>?_,I.base.free,λb o e hx=>?_,I.base.tups,I.base.frzs,I.base.tbls⟩,⟨m,hn.sameBut hs (DF (cne x c hc)),λj y v' e1 e2 e3=>?_⟩,λy c' e=>?_,I.free,I.freeC,λp hp=>?_,tracked ⟨oc,hoc,hfree⟩ hs,by simpa using I.len⟩ ⟨c,hs,.inr hc⟩
  ·exact(hs.2 b (BE (Ab (Ar e) (I.ok.cab x c (.inl hfn) hc)))).trans (I.base.keep b o e n hb hx)
  ·obtain⟨sl,e1⟩:=I.base.slot b o e n hb hx;exact⟨sl,(hs.2 b (BE (Ab (Ar e) (I.ok.cab x c (.inl hfn) hc)))).trans e1⟩
  ·obtain⟨o',e1⟩:=I.base.there b o e hx;exact⟨o',(hs.2 b (BE (Ab (Ar e) (I.ok.cab x c (.inl hfn) hc)))).trans e1⟩
  ·by_cases hj:j=i
   ·subst hj;rw[hi]at e1;cases e1;rw[HR hiσ]at e2;cases e2;exact⟨u,r,.inr ⟨.inl hk,c,hc,hc'⟩⟩
   ·rw[IA (DF hj)]at e2;obtain⟨u',r',q⟩:=hl j y v' e1 e2 e3;refine⟨u',r',?_⟩
    rcases q with q|⟨k,c',e,z'⟩
    ·exact .inl q
    ·refine .inr ⟨k,c',e,z'.sameBut hs ?_⟩;rintro rfl;exact hj (at3 hN e1 (I.ok.inj _ _ _ e hc▸hi))
  ·by_cases hcc:c'=c
   ·subst hcc;exact⟨_,hc'⟩
   ·obtain⟨w2,z2⟩:=I.cell y c' e;exact⟨w2,z2.sameBut hs hcc⟩
  ·obtain⟨e,n,ne,nf,d⟩:=I.pin p hp;refine⟨(hs.2 p.1 ?_).trans e,n,ne,nf,d⟩;intro q;rw[q,hoc]at e;have q':oc=p.2:=Ag e;exact d w' (by rw[<-q'];exact hocd)
def U9{M:Model}{A:BP}{E:AG->AL->Prop}{v:V}{u:AG}{Q:Unit->AL->Prop}(I:Inv X pins σ H s)(hN:X.N.Nodup)(hi:X.N[i]?=AA x)(hx:Loc X.env.scope x)(r:c8 v u)
  (h:∀s',Inv X pins (σ.set i (AA v)) H s'->Q () s') (hf:X.fn x=AB\/X.env.scope.names.lookup x=AA .local:=by first|exact .inl rfl|exact .inr rfl|assumption):AV M A (storeName X.env x u) Q E s:=
 bi9 I hN hi hx r (λs' I' _=>h s' I') hf
end
@[reducible]noncomputable def XK:=AG->Option AI->Hp->Prop
@[reducible]noncomputable def St:=List (Option V)
@[reducible]noncomputable def VK:=V->Hp->Prop
@[reducible]noncomputable def TE:=St->Hp->VK->Prop
@[reducible]noncomputable def TT:=St->Hp->(Bool->Hp->Prop)->Prop
@[reducible]noncomputable def TA:=St->Hp->(List V->Hp->Prop)->Prop
structure Ends where
 nx:St->Hp->Prop
 rt:VK
 bk:St->Hp->Prop:=λ_ _=>False
 ct:St->Hp->Prop:=λ_ _=>False
@[reducible]noncomputable def TS:=Ends->St->Hp->Prop
abbrev EP(X:Cx)(pins:List (AI×Obj))(σ:St)(Q:VK)(u:AG)(s':AL):Prop:=∃v H',Inv X pins σ H' s'/\c8 v u/\Q v H'
abbrev TP(X:Cx)(pins:List (AI×Obj))(σ:St)(Q:Bool->Hp->Prop)(b:Bool)(s':AL):Prop:=∃H',Inv X pins σ H' s'/\Q b H'
abbrev AP(X:Cx)(pins:List (AI×Obj))(σ:St)(Q:List V->Hp->Prop)(us:List AG)(s':AL):Prop:=∃vs H',Inv X pins σ H' s'/\c0 vs us/\Q vs H'
abbrev SP(X:Cx)(pins:List (AI×Obj))(D:Ends)(f:Flow)(s':AL):Prop:=
 match f with
 |.next=>∃σ' H',Inv X pins σ' H' s'/\D.nx σ' H'
 |.brk=>∃σ' H',Inv X pins σ' H' s'/\D.bk σ' H'
 |.cont=>∃σ' H',Inv X pins σ' H' s'/\D.ct σ' H'
 |.ret u=>∃v σ' H',Inv X pins σ' H' s'/\c8 v u/\D.rt v H'
abbrev PE(X:Cx)(e:AR)(t:TE):Prop:=
 ∀(pins:List (AI×Obj))(s:AL)(σ:St)(H:Hp)(Q:VK),Inv X pins σ H s->t σ H Q->AV (model X.prog X.w) X.A (eval e X.env) (EP X pins σ Q) X.xe s
abbrev PT(X:Cx)(e:AR)(t:TT):Prop:=
 ∀(pins:List (AI×Obj))(s:AL)(σ:St)(H:Hp)(Q:Bool->Hp->Prop),Inv X pins σ H s->t σ H Q->AV (model X.prog X.w) X.A (Hf e X.env (eval e X.env)) (TP X pins σ Q) X.xe s
abbrev PW(X:Cx)(e:AR)(t:TT):Prop:=
 ∀(whole:Sem AG)(pins:List (AI×Obj))(s:AL)(σ:St)(H:Hp)(Q:Bool->Hp->Prop),Inv X pins σ H s->t σ H Q->AV (model X.prog X.w) X.A (Hf e X.env whole) (TP X pins σ Q) X.xe s
def PW.pt{X:Cx}{e:AR}{t:TT}(h:PW X e t):PT X e t:=h _
abbrev PA(X:Cx)(es:List AR)(t:TA):Prop:=
 ∀(pos:Pos)(pins:List (AI×Obj))(s:AL)(σ:St)(H:Hp)(Q:List V->Hp->Prop),Inv X pins σ H s->t σ H Q->AV (model X.prog X.w) X.A (spliced (CU pos (Am es X.env))) (AP X pins σ Q) X.xe s
abbrev PS(X:Cx)(st:BV)(t:TS):Prop:=
 ∀(pins:List (AI×Obj))(s:AL)(σ:St)(H:Hp)(D:Ends),Inv X pins σ H s->t D σ H->AV (model X.prog X.w) X.A (exec st X.env) (SP X pins D) X.xe s
abbrev PSs(X:Cx)(st:List BV)(t:TS):Prop:=
 ∀(pins:List (AI×Obj))(s:AL)(σ:St)(H:Hp)(D:Ends),Inv X pins σ H s->t D σ H->AV (model X.prog X.w) X.A (execs st X.env) (SP X pins D) X.xe s
def thn{α}{t:Sem α}{Q Q'}{M}{A}{E}{s}(h:AV M A t Q E s)(hQ:∀a s,Q a s->Q' a s):AV M A t Q' E s:=Bf h hQ λ_ _ x=>x
end L2
namespace L2
open PySem PySem.Spec PyProof.Rows
variable{pins:List (AI×Obj)}{s:AL}{σ:St}{H:Hp}{x:Str}{pos:Pos}{u:AG}{op:Eo}{t:TE}
section
variable {X:Cx}
def bin{a b}{ta tb}(ha:PE X a ta)(hb:PE X b tb){R:V->V->Hp->Prop}(I:Inv X pins σ H s)(h:ta σ H λx H1=>tb σ H1 λy H2=>R x y H2)
  {α} {Q} {f:AG->AG->Sem α}
  (hf:∀v u s2 x y H2,Inv X pins σ H2 s2->c8 x v->c8 y u->R x y H2->AV (model X.prog X.w) X.A (f v u) Q X.xe s2) :
  AV (model X.prog X.w) X.A (eval a X.env) (λv s₁=>AV (model X.prog X.w) X.A (eval b X.env) (λu s₂=>AV (model X.prog X.w) X.A (f v u) Q X.xe s₂) X.xe s₁) X.xe s:=by
 refine thn (ha pins s σ H _ I h) λv s1 z0=>?_;obtain⟨x,H1,I1,r1,q1⟩:=z0;refine thn (hb pins s1 σ H1 _ I1 q1) λu s2 z1=>?_;obtain⟨y,H2,I2,r2,q2⟩:=z1;exact hf v u s2 x y H2 I2 r1 r2 q2
abbrev cu2(i:Nat):TE:=λσ H Q=>∃v,σ[i]?=AA (AA v)/\Q v H
abbrev tC(v:V):TE:=λ_ H Q=>Q v H
def ag3{i:Nat}(hN:X.N[i]?=AA x)(hv:Vis X.env.scope x)(hd:(x==("__debug__":Str))=AH:=by decide)(hcd:(x==("__classdict__":Str))=AH:=by decide):PE X (.Name x pos) (cu2 i):=by
 intro pins s σ H Q I h;obtain⟨v,e,h⟩:=h;obtain⟨m,hn,hl⟩:=I.loc;obtain⟨u,r,l⟩:=hl i x v hN e hv;have fin:EP X pins σ Q u s:=⟨v,H,I,r,h⟩
 rcases l with⟨hk,hm⟩|⟨hk,c,hc,hcell⟩
 ·exact JV (wpAny_loadName_local I.ok.kind hk hn hm fin) hd
 ·rcases hk with hk|hk
  ·exact JV (wpAny_loadName_cell I.ok.kind hk hc hcell fin) hd
  ·exact JV (wpAny_loadName_free I.ok.kind hk hc hcell fin hcd) hd
def cd9{i j pos}:PE X (.Constant (.int i) j pos) (tC (.int i)):=λ_ _ _ H _ I h=>wpAny_Constant_int ⟨.int i,H,I.tok _,⟨_,rfl⟩,h⟩
def ck8{b j pos}:PE X (.Constant (.bool b) j pos) (tC (.bl b)):=λ_ _ _ H _ I h=>Constant_bool ⟨.bl b,H,I,rfl,h⟩
def cb1{j pos}:PE X (.Constant .none j pos) (tC .non):=λ_ _ _ H _ I h=>IH ⟨.non,H,I,rfl,h⟩
def b59{x j pos}:PE X (.Constant (.str x) j pos) (tC (.str x)):=λ_ _ _ H _ I h=>Calls.Constant_str ⟨.str x,H,I.tok _,⟨_,rfl⟩,h⟩
abbrev Gl(X:Cx)(x:Str):Prop:=X.env.kindOf x=AA .globalImplicit
def L3{E:AG->AL->Prop}{pos:Pos}{Q:AG->AL->Prop}(I:Inv X pins σ H s)(hg:Gl X x)(hm:X.mg x=AA u)(h:Q u s)
  (hd:(x==("__debug__":Str))=AH:=by decide):AV (model X.prog X.w) X.A (eval (.Name x pos) X.env) Q E s:=
 Gf I.ok.kind hg (Calls.loadGlobal_global (by rw[I.ok.glob];exact I.mod.glob.keeps I.bk) hm h) hd
def A9{E:AG->AL->Prop}{pos:Pos}{Q:AG->AL->Prop}(I:Inv X pins σ H s)(hg:Gl X x)(hm:X.mg x=AC)(hv:BK x=AA u)(h:Q u s)
  (hn:x≠"__name__":=by decide) (hd:(x==("__debug__":Str))=AH:=by decide):AV (model X.prog X.w) X.A (eval (.Name x pos) X.env) Q E s:=by
 obtain⟨mb,h1,h2⟩:=I.mod.blt;exact Gf I.ok.kind hg (Calls.loadGlobal_builtin (by rw[I.ok.glob];exact I.mod.glob.keeps I.bk) hm (by rw[I.ok.blt];exact h1.keeps I.bk) ((h2 x hn).trans hv) h) hd
def ay7{v:V}(hg:Gl X x)(hm:X.mg x=AA u)(r:c8 v u)(hd:(x==("__debug__":Str))=AH:=by decide):PE X (.Name x pos) (tC v):=
 λ_ _ _ H _ I h=>L3 I hg hm ⟨v,H,I,r,h⟩ hd
def bw9{v:V}(hg:Gl X x)(hm:X.mg x=AC)(hv:BK x=AA u)(r:c8 v u)(hn:x≠"__name__":=by decide)(hd:(x==("__debug__":Str))=AH:=by decide):PE X (.Name x pos) (tC v):=
 λ_ _ _ H _ I h=>A9 I hg hm hv ⟨v,H,I,r,h⟩ hn hd
variable {a b:AR} {ta tb:TE} 
abbrev PC(X:Cx)(op:Eo)(a b:AR)(t:TE):Prop:=
 ∀(pins:List (AI×Obj))(s:AL)(σ:St)(H:Hp)(Q:VK),Inv X pins σ H s->t σ H Q ->
  AV (model X.prog X.w) X.A (eval a X.env) (λv s₁=>AV (model X.prog X.w) X.A (eval b X.env) (λu s₂=>AV (model X.prog X.w) X.A (CJ op v u) (EP X pins σ Q) X.xe s₂) X.xe s₁) X.xe s
def as9 b(h:op≠.In)(h2:op≠.NotIn):CM op b=AH:=by
 have e1:(op==CmpOp.In)=AH:=by lia
 have e2:(op==Jk)=AH:=by lia
 cases b<;>simp[CM,e1,e2]
abbrev cw2(ta:TE):TE:=λσ H Q=>ta σ H λx H1=>Q (.bl (AE (x=.non))) H1
abbrev co8(ta:TE):TE:=λσ H Q=>ta σ H λx H1=>Q (.bl (!decide (x=.non))) H1
def c8.none_iff{x}{v}(r:c8 x v):(v==Bh)=AE (x=.non):=by
 cases x with
 |non=>cases r;rfl
 |bl _=>cases r;rfl
 |int _=>obtain⟨t,rfl⟩:=r;rfl
 |str _=>obtain⟨t,rfl⟩:=r;rfl
 |byt _=>obtain⟨t,rfl⟩:=r;rfl
 |flt _=>obtain⟨t,rfl⟩:=r;rfl
 |ref _=>cases r;rfl
 |ty _=>cases r;rfl
def az8{j pos'}(ha:PE X a ta):PC X .Is a (.Constant .none j pos') (cw2 ta):=by
 intro pins s σ H Q I h;refine thn (ha pins s σ H _ I h) λv s1 z2=>?_;obtain⟨x,H1,I1,r1,q1⟩:=z2;exact IH (is_none_gen ⟨.bl _,H1,I1,by rw[r1.none_iff];rfl,q1⟩)
def ax0{j pos'}(ha:PE X a ta):PC X .IsNot a (.Constant .none j pos') (co8 ta):=by
 intro pins s σ H Q I h;refine thn (ha pins s σ H _ I h) λv s1 z3=>?_;obtain⟨x,H1,I1,r1,q1⟩:=z3;exact IH (isnot_none_gen ⟨.bl _,H1,I1,by rw[r1.none_iff];rfl,q1⟩)
abbrev tB(t:TE):TT:=λσ H Q=>t σ H λx H1=>∃c,x=.bl c/\Q c H1
def a53(h:PC X op a b t)(h1:CM op b=AH:=by first|exact as9 _ ∅ ∅|rfl):PE X (.Compare a [op] [b] pos) t:=λpins s σ H Q I hw=>Kk (h pins s σ H Q I hw) h1
def a03(h:PC X op a b t)(h1:CM op b=AH:=by first|exact as9 _ ∅ ∅|rfl):PT X (.Compare a [op] [b] pos) (tB t):=by
 intro pins s σ H Q I hw;refine Iq (thn (h pins s σ H _ I hw) λv s1 h1=>thn h1 λu s2 h2=>thn h2 λc s3 z4=>?_) h1;obtain⟨x,H1,I1,r1,q1⟩:=z4;obtain⟨d,rfl,q⟩:=q1;cases r1;exact CK ⟨H1,I1,q⟩
def b54{e:AR}(h:PE X e t)(he:∀whole,Hf e X.env whole=(do let v <-whole;HS e.pos;holding [v] (truthy v)):=by intro _;rfl):PT X e (tB t):=by
 intro pins s σ H Q I hw;refine isTrue_plain (thn (h pins s σ H _ I hw) λv s1 z5=>?_) (he _);obtain⟨x,H1,I1,r1,q1⟩:=z5;obtain⟨d,rfl,q⟩:=q1;cases r1;exact CK ⟨H1,I1,q⟩
variable {tA tB':TT} {d7:List AR}
abbrev cy6(t u:TT):TT:=λσ H Q=>t σ H λc H1=>if c=AB then u σ H1 Q else Q AH H1
abbrev tOr(t u:TT):TT:=λσ H Q=>t σ H λc H1=>if c=AB then Q AB H1 else u σ H1 Q
abbrev cz3(t:TT):TT:=λσ H Q=>t σ H λc H1=>Q (!c) H1
def bw3(ha:PT X a tA):PW X (.BoolOp .And [a] pos) tA:=by
 intro wh pins s σ H Q I h;refine isTrue_and (thn (ha pins s σ H Q I h) λc s1 e=>?_);cases c with
 |true=>exact isTrue_and_nil e
 |false=>exact e
def b28(ha:PT X a tA):PW X (.BoolOp .Or [a] pos) tA:=by
 intro wh pins s σ H Q I h;refine isTrue_or (thn (ha pins s σ H Q I h) λc s1 e=>?_);cases c with
 |false=>exact isTrue_or_nil e
 |true=>exact e
def cc7(ha:PT X a tA)(hb:PW X (.BoolOp .And (b::d7) pos) tB'):PW X (.BoolOp .And (a::b::d7) pos) (cy6 tA tB'):=by
 intro wh pins s σ H Q I h;refine isTrue_and (thn (ha pins s σ H _ I h) λc s1⟨H1,I1,q1⟩=>?_);cases c with
 |true=>exact hb wh pins s1 σ H1 Q I1 q1
 |false=>exact⟨H1,I1,q1⟩
def cj1(ha:PT X a tA)(hb:PW X (.BoolOp .Or (b::d7) pos) tB'):PW X (.BoolOp .Or (a::b::d7) pos) (tOr tA tB'):=by
 intro wh pins s σ H Q I h;refine isTrue_or (thn (ha pins s σ H _ I h) λc s1⟨H1,I1,q1⟩=>?_);cases c with
 |true=>exact⟨H1,I1,q1⟩
 |false=>exact hb wh pins s1 σ H1 Q I1 q1
def b64(ha:PT X a tA):PT X (.UnaryOp .Not a pos) (cz3 tA):=(λpins s σ H Q I h=>isTrue_not (ha pins s σ H (λc=>Q (!c)) I h))
abbrev ch5(ta tb:TE):TE:=λσ H Q=>ta σ H λx H1=>∃c,x=.bl c/\if c=AB then tb σ H1 Q else Q (.bl AH) H1
abbrev ct8(ta tb:TE):TE:=λσ H Q=>ta σ H λx H1=>∃c,x=.bl c/\if c=AB then Q (.bl AB) H1 else tb σ H1 Q
abbrev cq6(ta:TE):TE:=λσ H Q=>ta σ H λx H1=>∃c,x=.bl c/\Q (.bl (!c)) H1
def a00{op}(h:PE X a t):PE X (.BoolOp op [a] pos) t:=λpins s σ H Q I hw=>BoolOp_one (h pins s σ H Q I hw)
def b27(ha:PE X a ta)(hb:PE X (.BoolOp .And (b::d7) pos) tb):PE X (.BoolOp .And (a::b::d7) pos) (ch5 ta tb):=by
 intro pins s σ H Q I h;refine BoolOp_and (thn (ha pins s σ H _ I h) λv s1 z6=>?_);obtain⟨x,H1,I1,r1,q1⟩:=z6;obtain⟨c,rfl,q1⟩:=q1;cases r1;refine CK ?_;cases c with
 |true=>exact hb pins s1 σ H1 Q I1 q1
 |false=>exact⟨.bl AH,H1,I1,rfl,q1⟩
def cl7(ha:PE X a ta)(hb:PE X (.BoolOp .Or (b::d7) pos) tb):PE X (.BoolOp .Or (a::b::d7) pos) (ct8 ta tb):=by
 intro pins s σ H Q I h;refine BoolOp_or (thn (ha pins s σ H _ I h) λv s1 z7=>?_);obtain⟨x,H1,I1,r1,q1⟩:=z7;obtain⟨c,rfl,q1⟩:=q1;cases r1;refine CK ?_;cases c with
 |false=>exact hb pins s1 σ H1 Q I1 q1
 |true=>exact⟨.bl AB,H1,I1,rfl,q1⟩
def b29(ha:PE X a ta):PE X (.UnaryOp .Not a pos) (cq6 ta):=by
 intro pins s σ H Q I h;refine UnaryOp_ (thn (ha pins s σ H _ I h) λv s1 z8=>?_);obtain⟨x,H1,I1,r1,q1⟩:=z8;obtain⟨c,rfl,q1⟩:=q1;cases r1;exact not_of (CK ⟨.bl !c,H1,I1,rfl,q1⟩)
abbrev tIf(t:TT)(ta tb:TE):TE:=λσ H Q=>t σ H λc H1=>if c=AB then ta σ H1 Q else tb σ H1 Q
def bk9{c}(hc:PT X c tA)(ha:PE X a ta)(hb:PE X b tb):PE X (.IfExp c a b pos) (tIf tA ta tb):=by
 intro pins s σ H Q I h;refine wpAny_IfExp (thn (hc pins s σ H _ I h) λd s1⟨H1,I1,q1⟩=>?_);cases d with
 |true=>exact ha pins s1 σ H1 Q I1 q1
 |false=>exact hb pins s1 σ H1 Q I1 q1
end
end L2
namespace L2
open PySem PySem.Spec PyProof.Rows
variable{u:AG}{X:Cx}{pins:List (AI×Obj)}{σ:St}{H:Hp}{s:AL}{e tg:AR}{te:TE}{pos:Pos}{P:Ah}
abbrev SqL(K:AN)(H:Hp)(a:AI)(xs:List V):Prop:=
 Rd H a (.lst xs)\/
  ∃(o:Obj)(its:Array AG)(n:Nat),K.lookup a=AA o/\o.cls=.type "list"/\o.dict=AC/\o.data=.seq its n/\its.size<=sizeLine/\c0 xs its.toList
abbrev SqT(K:AN)(H:Hp)(a:AI)(xs:List V):Prop:=
 Rd H a (.tup xs)\/
  ∃(o:Obj)(its:Array AG)(n:Nat),K.lookup a=AA o/\o.cls=.type "tuple"/\o.dict=AC/\o.data=.seq its n/\its.size<=sizeLine/\c0 xs its.toList
abbrev cx3:AG->Option V
 |.none=>AA .non
 |.bool b=>AA (.bl b)
 |.int i _=>AA (.int i)
 |.str x _=>AA (.str x)
 |.bytes b _=>AA (.byt b)
 |.float b _=>AA (.flt b)
 |.ref a=>AA (.ref a)
 |.type n=>AA (.ty n)
 |_=>AC
def c8.abs{x}(r:c8 x u):cx3 u=AA x:=by
 cases x with
 |non=>cases r;rfl
 |bl _=>cases r;rfl
 |int _=>obtain⟨t,rfl⟩:=r;rfl
 |str _=>obtain⟨t,rfl⟩:=r;rfl
 |byt _=>obtain⟨t,rfl⟩:=r;rfl
 |flt _=>obtain⟨t,rfl⟩:=r;rfl
 |ref _=>cases r;rfl
 |ty _=>cases r;rfl
theorem c8.inj{x y}(r:c8 x u)(q:c8 y u):x=y:=Ag (r.abs.symm.trans q.abs)
theorem c0.inj:∀{xs ys}{us},c0 xs us->c0 ys us->xs=ys
 |_,_,_,.nil,.nil=>rfl
 |_,_,_,.cons r t,.cons r' t'=>by rw[r.inj r',c0.inj t t']
section
variable {a:AI} {xs ys:List V}
def Inv.list(I:Inv X pins σ H s)(h:SqL X.K H a xs):∃its:List AG,c0 xs its/\PlainL s.heap a its.toArray/\xs.length<=sizeLine:=by
 rcases h with h|⟨o,its,n,hk,hc,hd,hs,hz,r⟩
 ·obtain⟨z,its,n,r,e⟩:=h.ok I.hok;exact⟨its,r,⟨_,n,e,rfl,rfl,rfl⟩,z⟩
 ·refine⟨its.toList,r,⟨o,n,I.kIn a o hk,hc,hd,by simpa using hs⟩,?_⟩;have e:=r.length;simp at e;lia
def Inv.tupleD(I:Inv X pins σ H s)(h:SqT X.K H a xs):∃its:List AG,c0 xs its/\v3 s.heap a its.toArray/\xs.length<=sizeLine:=by
 rcases h with h|⟨o,its,n,hk,hc,hdn,hs,hz,r⟩
 ·obtain⟨z,its,r,p⟩:=h.ok I.hok;exact⟨its,r,p,z⟩
 ·refine⟨its.toList,r,⟨o,I.kIn a o hk,hc,hdn,n,by simpa using hs⟩,?_⟩;have e:=r.length;simp at e;lia
def Inv.tuple(I:Inv X pins σ H s)(h:SqT X.K H a xs):∃its:List AG,c0 xs its/\Kj s.heap a its.toArray/\xs.length<=sizeLine:=by
 obtain⟨its,r,p,z⟩:=I.tupleD h;exact⟨its,r,p.tup,z⟩
def Inv.list_inj(I:Inv X pins σ H s)(h:SqL X.K H a xs)(h':SqL X.K H a ys):xs=ys:=by
 obtain⟨its,r,⟨o,n,e,_,_,d⟩,_⟩:=I.list h;obtain⟨its',r',⟨o',n',e',_,_,d'⟩,_⟩:=I.list h';have:its=its':=by simp_all
 subst this;exact r.inj r'
def Inv.tuple_inj(I:Inv X pins σ H s)(h:SqT X.K H a xs)(h':SqT X.K H a ys):xs=ys:=by
 obtain⟨its,r,⟨o,e,_,n,d⟩,_⟩:=I.tuple h;obtain⟨its',r',⟨o',e',_,n',d'⟩,_⟩:=I.tuple h';have:its=its':=by simp_all
 subst this;exact r.inj r'
end
section
variable {st:BV} {d7:List BV} {t u:TS} 
abbrev a74:TS:=λD σ H=>D.nx σ H
abbrev cz2(t u:TS):TS:=λD σ H=>t {D with nx:=u D} σ H
def bx1:PSs X [] a74:=λ_ _ σ H _ I h=>HN ⟨σ,H,I,h⟩
def bl4(h1:PS X st t)(h2:PSs X d7 u):PSs X (st::d7) (cz2 t u):=by
 intro pins s σ H D I h;refine KF (thn (h1 pins s σ H {D with nx:=u D} I h) λf s1 q=>?_);cases f with
 |next=>
  obtain⟨σ',H',I',q⟩:=q;exact h2 pins s1 σ' H' D I' q
 |ret v=>exact q
 |brk=>exact q
 |cont=>exact q
def bx8:PS X (.Pass pos) a74:=λ_ _ σ H _ I h=>wpAny_Pass ⟨σ,H,I,h⟩
def Inv.quiet(I:Inv X pins σ H s):interactive X.env=AH:=by simp[interactive,I.ok.kind]
abbrev cj4(te:TE):TS:=λD σ H=>te σ H λ_ H1=>D.nx σ H1
def bv2(he:PE X e te)(hs:Ci e AC pos.line X.env=pure AH:=by rfl):PS X (.Expr e pos) (cj4 te):=by
 intro pins s σ H D I h;exact wpAny_Expr_any (thn (he pins s σ H _ I h) λv s1⟨x,H1,I1,r1,q1⟩=>⟨σ,H1,I1,q1⟩) I.quiet hs
abbrev cw8(te:TE):TS:=λD σ H=>te σ H D.rt
def b97(he:PE X e te):PS X (.Return (AA e) pos) (cw8 te):=λpins s σ H D I h=>wpAny_Return_some (thn (he pins s σ H _ I h) λv s1⟨x,H1,I1,r1,q1⟩=>⟨x,σ,H1,I1,r1,q1⟩)
abbrev cp0:TS:=λD _ H=>D.rt .non H
def bu4:PS X (.Return AC pos) cp0:=λ_ _ σ H _ I h=>wpAny_Return_none ⟨.non,σ,H,I,rfl,h⟩
abbrev cw1(c:TT)(t u:TS):TS:=λD σ H=>c σ H λb H1=>if b=AB then t D σ H1 else u D σ H1
def cp4{c}{a b}{tc}(hc:PT X c tc)(ha:PSs X a t)(hb:PSs X b u):PS X (.If c a b pos) (cw1 tc t u):=by
 intro pins s σ H D I h;refine wpAny_If (thn (hc pins s σ H _ I h) λd s1⟨H1,I1,q1⟩=>?_);cases d with
 |true=>exact ha pins s1 σ H1 D I1 q1
 |false=>exact hb pins s1 σ H1 D I1 q1
end
@[reducible]noncomputable def TG:=V->St->Hp->(St->Hp->Prop)->Prop
@[reducible]noncomputable def TGs:=List V->St->Hp->(St->Hp->Prop)->Prop
abbrev PG(X:Cx)(target:AR)(t:TG):Prop:=
 ∀(pins:List (AI×Obj))(s:AL)(σ:St)(H:Hp)(v:V)(u:AG)(Q:St->Hp->Prop),Inv X pins σ H s->c8 v u->t v σ H Q ->
  AV (model X.prog X.w) X.A (assign target X.env u) (λ_ s'=>∃σ' H',Inv X pins σ' H' s'/\Q σ' H') X.xe s
abbrev PGs(X:Cx)(ts:List AR)(t:TGs):Prop:=
 ∀(pins:List (AI×Obj))(s:AL)(σ:St)(H:Hp)(vs:List V)(us:List AG)(Q:St->Hp->Prop),Inv X pins σ H s->c0 vs us->t vs σ H Q ->
  AV (model X.prog X.w) X.A (assignInOrder ((CC ts X.env).map (·.2)) us) (λ_ s'=>∃σ' H',Inv X pins σ' H' s'/\Q σ' H') X.xe s
@[reducible]noncomputable def ak2:=V->V->V->Hp->(Hp->Prop)->Prop
abbrev a91(X:Cx)(t:ak2):Prop:=
 ∀(pins:List (AI×Obj))(s:AL)(σ:St)(H:Hp)(o i v:V)(ov iv u:AG)(Q:Hp->Prop),Inv X pins σ H s->c8 o ov->c8 i iv->c8 v u->t o i v H Q ->
  AV (model X.prog X.w) X.A (Jl ov iv u) (λ_ s'=>∃H',Inv X pins σ H' s'/\Q H') X.xe s
section
abbrev ai1(i:Nat):TG:=λv σ H Q=>Q (σ.set i (AA v)) H
def ax4{i:Nat}{x:Str}(hN:X.N.Nodup)(hi:X.N[i]?=AA x)(hx:Loc X.env.scope x)(hf:X.fn x=AB\/X.env.scope.names.lookup x=AA .local:=by first|exact .inl rfl|exact .inr rfl|assumption):PG X (.Name x pos) (ai1 i):=by
 intro pins s σ H v u Q I r h;exact Jm (U9 I hN hi hx r (λs' I'=>⟨_,H,I',h⟩) hf)
abbrev ba7:TGs:=λvs σ H Q=>vs=[]/\Q σ H
abbrev a70(t:TG)(u:TGs):TGs:=λvs σ H Q=>∃v r,vs=v::r/\t v σ H λσ' H'=>u r σ' H' Q
def by5:PGs X [] ba7:=by
 intro pins s σ H vs us Q I r h;obtain⟨e,h⟩:=h;exact assignInOrder_nil ⟨σ,H,I,h⟩
def bm2{es:List AR}{t:TG}{u:TGs}(h1:PG X e t)(h2:PGs X es u)
  (hs:(CC (e::es) X.env).map (·.2)=assign e X.env::(CC es X.env).map (·.2):=by rfl):PGs X (e::es) (a70 t u):=by
 intro pins s σ H vs us Q I r h;obtain⟨v,vr,e1,h⟩:=h;subst e1;cases r with
 |cons r rr=>
  rw[hs];refine assignInOrder_cons (thn (h1 pins s σ H _ _ _ I r h) λ_ s1 z9=>?_);obtain⟨σ1,H1,I1,q1⟩:=z9;exact h2 pins s1 σ1 H1 _ _ Q I1 rr q1
abbrev cs9(K:AN)(n:Nat)(t:TGs):TG:=λv σ H Q=>∃a xs,v=.ref a/\SqT K H a xs/\xs.length=n/\t xs σ H Q
def b63{es:List AR}{k:Nat}{t:TGs}{n:Nat}(hc:X.calm=AB)(h:PGs X es t)
  (hn:(CC es X.env).length=n:=by rfl) (hst:(CC es X.env).findIdx? (·.1)=AC:=by rfl):PG X (.Tuple es k pos) (cs9 X.K n t):=by
 intro pins s σ H v u Q I r hw;obtain⟨a,xs,e1,hq,hl,hw⟩:=hw;subst e1;cases r;obtain⟨its,rv,ht,hz⟩:=I.tuple hq;refine assign_Tuple_tuple (I.ok.hd hc) ht (by simp[hn,<-hl,rv.length]) hst λh' hx=>?_;have I1:Inv X pins σ H {s with heap:=h'}:=I.kept (t':=s.toks) λb o e=>hx b o (BE (Ar e)) e;exact h pins _ σ H xs _ Q I1 (by simpa using rv) hw
abbrev cy4(to ti:TE)(t:ak2):TG:=λv σ H Q=>to σ H λo H1=>ti σ H1 λi H2=>t o i v H2 λH3=>Q σ H3
def ce0{o i:AR}{to ti:TE}{t:ak2}(ho:PE X o to)(hi:PE X i ti)(hs:a91 X t)
  (ha:∀v,assign (.Subscript o i pos) X.env v=(do
   let ov <-holding [v] (eval o X.env)
   let iv <-holding [v,ov] (eval i X.env)
   HS pos
   holding [v,ov,iv] (Jl ov iv v)
   release [v,ov,iv] []):=by intro _;rfl):PG X (.Subscript o i pos) (cy4 to ti t):=by
 intro pins s σ H v u Q I r h;rw[ha];refine AD (CA (thn (ho pins s σ H _ I h) λov s1 z10=>?_));obtain⟨x,H1,I1,r1,q1⟩:=z10;refine AD (CA (thn (hi pins s1 σ H1 _ I1 q1) λiv s2 z11=>?_));obtain⟨y,H2,I2,r2,q2⟩:=z11;refine AD (II (AD (CA (thn (hs pins s2 σ H2 x y v ov iv u _ I2 r1 r2 r q2) λ_ s3⟨H3,I3,q3⟩=>?_))));exact wpAny_release ⟨σ,H3,I3,q3⟩
abbrev a97(te:TE)(g:TG):TS:=λD σ H=>te σ H λx H1=>g x σ H1 D.nx
def cc2{g:TG}(he:PE X e te)(hg:PG X tg g)(hs:GP [tg] e pos.line X.env=pure AH:=by rfl)(hw:swappedStores [tg] e X.env=pure AC:=by rfl)
  (h1:(CC [tg] X.env).map (·.2)=[assign tg X.env]:=by rfl):PS X (.Assign [tg] e pos) (a97 te g):=by
 intro pins s σ H D I h;refine wpAny_Assign_stores (thn (he pins s σ H _ I h) λv s1 z12=>?_) hs hw;obtain⟨x,H1,I1,r1,q1⟩:=z12;rw[h1];exact thn (hg pins s1 σ H1 x v _ I1 r1 q1) λ_ s2 q=>q
def cf1{i:Nat}{x:Str}{pos':Pos}(hN:X.N.Nodup)(hi:X.N[i]?=AA x)(hx:Loc X.env.scope x)(he:PE X e te)(hs:Ci e (AA (.Name x pos')) pos.line X.env=pure AH:=by rfl)(hf:X.fn x=AB\/X.env.scope.names.lookup x=AA .local:=by first|exact .inl rfl|exact .inr rfl|assumption):
  PS X (.Assign [.Name x pos'] e pos) (a97 te (ai1 i)):=by
 intro pins s σ H D I h;refine wpAny_Assign_Name (thn (he pins s σ H _ I h) λv s1 z13=>?_) hs;obtain⟨y,H1,I1,r1,q1⟩:=z13;exact U9 I1 hN hi hx r1 (λs2 I2=>⟨_,H1,I2,q1⟩) hf
end
section
abbrev ca4(c:TT)(tb:TS):TS:=λD σ H=>∃W:Nat->St->Hp->Prop,(∃m,W m σ H)/\∀m σ H,W m σ H ->
 c σ H λb H1=>if b=AB then ∃N:St->Hp->Prop,(∀σ' H',N σ' H'->∃m',m'<m/\W m' σ' H')/\tb {D with nx:=N,ct:=N,bk:=D.nx} σ H1 else D.nx σ H1
def bl2{c}{body}{tc}{tb}(hp:HB (model X.prog X.w) X.A X.env X.xe)(hc:PT X c tc)(hb:PSs X body tb):PS X (.While c body [] pos) (ca4 tc tb):=by
 intro pins s σ H D I h;obtain⟨W,⟨m0,w0⟩,turn⟩:=h;refine wpAny_While (codeAny_whileLoop (λn s'=>∃σ' H',Inv X pins σ' H' s'/\W n σ' H') ?_ m0 ⟨σ,H,I,w0⟩);rintro n s1 ⟨σ1,H1,I1,w1⟩;refine Cf hp (thn (hc pins s1 σ1 H1 _ I1 (turn n σ1 H1 w1)) λb s2⟨H2,I2,q2⟩=>?_);cases b with
 |true=>
  obtain⟨N,hN,q2⟩:=q2;refine Cf hp (thn (hb pins s2 σ1 H2 _ I2 q2) λf s3 q3=>?_);cases f with
  |next=>
   obtain⟨σ3,H3,I3,n3⟩:=q3;obtain⟨m',hm,w3⟩:=hN σ3 H3 n3;exact⟨m',hm,σ3,H3,I3,w3⟩
  |cont=>
   obtain⟨σ3,H3,I3,n3⟩:=q3;obtain⟨m',hm,w3⟩:=hN σ3 H3 n3;exact⟨m',hm,σ3,H3,I3,w3⟩
  |brk=>exact q3
  |ret v=>exact q3
 |false=>
  exact HN ⟨σ1,H2,I2,q2⟩
end
structure It where
 go:Nat->Hp->Prop
 yld:Nat->Hp->V->Hp->Prop
 stop:Nat->Hp->Prop
abbrev t7(X:Cx)(pins:List (AI×Obj))(H:Hp)(b:AI):Prop:=
 H b=AC/\b≠X.env.locals/\b∉X.fs/\(b∈X.ex\/X.s₀.heap.objs.size<=b)/\(∀x c,X.env.cells.lookup x=AA c->c≠b)/\∀p∈X.pn++pins,p.1≠b
def Inv.fpOk{H'}{b:AI}(I:Inv X pins σ H s)(hb:s.heap.objs.size<=b)(hn:H' b=AC):t7 X pins H' b:=by
 refine⟨hn,Hg (Ab I.lt hb),I.nofs hb,.inr (Ay I.sz hb),λx c e z=>?_,λp hp z=>?_⟩
 ·obtain⟨v,q⟩:=I.cell x c e;exact absurd (Ab q.lt (by simp_all)) (DW _)
 ·exact absurd (Ab (Ar (I.pin p hp).1) (by simp_all)) (DW _)
structure Turn(P:Ah)(w:Aq)(K:AN)(tg:AR)(J:It)(fp:List AI)(it:AI)(tn:Nat->Heap->Prop):Prop where
 mem:it∈fp
 obj:∀i h,tn i h->∀b∈fp,∃o,h.get? b=AA o/\∀v,o.data≠.cell v
 keep:∀i h h',tn i h->(∀b∈fp,∀o,h.get? b=AA o->h'.get? b=AA o)->tn i h'
 item:∀(X:Cx),X.prog=P->X.w=w->X.K=K->X.calm=AB->∀(i:Nat)(pins:List (AI×Obj))(s:AL)(σ:St)(H:Hp)(E:AG->AL->Prop),Inv X pins σ H s->(∀b∈fp,t7 X pins H b)->tn i s.heap->J.go i H ->
  AV (model P w) X.A (GR (.ref it)) (λr s1=>∃u,r=AA u /\
   AV (model P w) X.A (FN tg (.ref it) u) (λ_ s2=>∃x H',Inv X pins σ H' s2/\c8 x u/\J.yld i H x H'/\tn (i+1) s2.heap/\∀b∈fp,H' b=AC) E s1) E s
 done:∀(X:Cx),X.prog=P->X.w=w->X.K=K->X.calm=AB->∀(i:Nat)(pins:List (AI×Obj))(s:AL)(σ:St)(H:Hp)(E:AG->AL->Prop),Inv X pins σ H s->(∀b∈fp,t7 X pins H b)->tn i s.heap->J.stop i H ->
  AV (model P w) X.A (GR (.ref it)) (λr s1=>r=AC/\Inv X pins σ H s1) E s
 self:∀(A:BP)(i:Nat)(s:AL)(Q:AG->AL->Prop)(E:AG->AL->Prop),tn i s.heap->Q (.ref it) s->AV (model P w) A (Hh (.ref it)) Q E s
@[reducible]noncomputable def TI:=St->Hp->(It->Hp->Prop)->Prop
abbrev PIE(X:Cx)(pins:List (AI×Obj))(σ:St)(tg:AR)(R:It->Hp->Prop)(itv:AG)(s2:AL):Prop:=
 ∃(it:AI)(fp:List AI)(tn:Nat->Heap->Prop)(J:It)(H':Hp),itv=.ref it/\Inv X pins σ H' s2/\Turn X.prog X.w X.K tg J fp it tn/\tn 0 s2.heap/\(∀b∈fp,t7 X pins H' b)/\R J H'
abbrev PI(X:Cx)(tg iter:AR)(wi:TI):Prop:=
 ∀(pins:List (AI×Obj))(s:AL)(σ:St)(H:Hp)(R:It->Hp->Prop),Inv X pins σ H s->wi σ H R ->
  AV (model X.prog X.w) X.A (eval iter X.env) (λv s1=>AV (model X.prog X.w) X.A (Hh v) (PIE X pins σ tg R) X.xe s1) X.xe s
def Y4{M}{A}{E}{it}{o}{n}{vs}{Q}(ho:s.heap.get? it=AA o)(hc:o.cls=.type n)(hd:o.data=.fields vs)
  (hn:["enumerate","zip","dict_itemiterator","dict_reverseitemiterator","odict_iterator","itertools.zip_longest","itertools.pairwise"].contains n=AH) (hQ:Q () s):AV M A (FN tg (.ref it) u) Q E s:=by
 cases tg<;>first
  |exact AJ hQ
  | (cases u <;> first
    |exact AJ hQ
    | (refine AD (JX ho ?_)
       rw[hc,hd];show AV M A (if(["enumerate","zip","dict_itemiterator","dict_reverseitemiterator","odict_iterator","itertools.zip_longest","itertools.pairwise"].contains n&&vs[0]?==AA (GS _))=AB then _ else _) Q E s;rw[if_neg (by intro h;rw[hn]at h;cases h)];exact AJ hQ))
abbrev Itl(K:AN)(a:AI):It:=
 ⟨λi H=>∃xs x,SqL K H a xs/\xs[i]?=AA x,λi H x H'=>H'=H/\∀xs,SqL K H a xs->xs[i]?=AA x,λi H=>∃xs,SqL K H a xs/\xs.length<=i⟩
abbrev Itt(K:AN)(a:AI):It:=
 ⟨λi H=>∃xs x,SqT K H a xs/\xs[i]?=AA x,λi H x H'=>H'=H/\∀xs,SqT K H a xs->xs[i]?=AA x,λi H=>∃xs,SqT K H a xs/\xs.length<=i⟩
abbrev Itr(lo:Int)(n:Nat):It:=⟨λi _=>i<n,λi H x H'=>H'=H/\x=.int (lo+i),λi _=>n<=i⟩
def bj7{w:Aq}{K:AN}(a it:AI):Turn P w K tg (Itl K a) [it] it (λi h=>h.IsListIter it a i) where
 mem:=by simp
 obj:=λi h st b hb=>by
  have e:b=it:=by simpa using hb
  subst e;obtain⟨o,e,c,d⟩:=st;exact⟨o,e,λv z=>by rw[d]at z;cases z⟩
 keep:=λi h h' st k=>st.at λo e=>k it ∎ o e
 item:=by
  intro X hP hw hK hc i pins s σ H E I hf st hg;subst hP hw hK;obtain⟨xs,x,hq,hx⟩:=hg;obtain⟨its,rv,p,hz⟩:=I.list hq;obtain⟨u,hu,ru⟩:=rv.get hx;obtain⟨f0,f1,f2,f3,f4,f5⟩:=hf it ∎;refine wpAny_pyNext_list_item st p.isList (x:=u) (by simpa using hu) λh' st' sb=>?_;have I1:Inv X pins σ H {s with heap:=h'}:=I.turned (t':=s.toks) (λb o hb e=>(sb.2 b hb).trans e) f0 f1 f3 f4 f5;obtain⟨o,e,c,d⟩:=id st';exact⟨u,rfl,Y4 (s:={s with heap:=h'}) e c d ∅ ⟨x,H,I1,ru,⟨rfl,λys hy=>by rw[I.list_inj hy hq];exact hx⟩,st',λb hb=>(hf b hb).1⟩⟩
 done:=by
  intro X hP hw hK hc i pins s σ H E I hf st hg;subst hP hw hK;obtain⟨xs,hq,hx⟩:=hg;obtain⟨its,rv,p,hz⟩:=I.list hq;obtain⟨f0,f1,f2,f3,f4,f5⟩:=hf it ∎;have hl:=rv.length;exact wpAny_pyNext_list_end (I.ok.hd hc) st p.isList (by simp;lia) λh' eb=>⟨rfl,I.turned (t':=s.toks) (λb o hb e=>eb b o hb e) f0 f1 f3 f4 f5⟩
 self:=λ_ _ _ _ _ st h=>wpAny_pyIter_listiter st h
def bg0{w:Aq}{K:AN}(a it:AI):Turn P w K tg (Itt K a) [it] it (λi h=>h.IsTupleIter it a i) where
 mem:=by simp
 obj:=λi h st b hb=>by
  have e:b=it:=by simpa using hb
  subst e;obtain⟨o,e,c,d⟩:=st;exact⟨o,e,λv z=>by rw[d]at z;cases z⟩
 keep:=λi h h' st k=>st.at λo e=>k it ∎ o e
 item:=by
  intro X hP hw hK hc i pins s σ H E I hf st hg;subst hP hw hK;obtain⟨xs,x,hq,hx⟩:=hg;obtain⟨its,rv,p,hz⟩:=I.tuple hq;obtain⟨u,hu,ru⟩:=rv.get hx;obtain⟨f0,f1,f2,f3,f4,f5⟩:=hf it ∎;refine wpAny_pyNext_tuple_item st (show s.heap.IsTuple a its.toArray from p) (x:=u) (by simpa using hu) λh' st' sb=>?_;have I1:Inv X pins σ H {s with heap:=h'}:=I.turned (t':=s.toks) (λb o hb e=>(sb.2 b hb).trans e) f0 f1 f3 f4 f5;obtain⟨o,e,c,d⟩:=id st';exact⟨u,rfl,Y4 (s:={s with heap:=h'}) e c d ∅ ⟨x,H,I1,ru,⟨rfl,λys hy=>by rw[I.tuple_inj hy hq];exact hx⟩,st',λb hb=>(hf b hb).1⟩⟩
 done:=by
  intro X hP hw hK hc i pins s σ H E I hf st hg;subst hP hw hK;obtain⟨xs,hq,hx⟩:=hg;obtain⟨its,rv,p,hz⟩:=I.tuple hq;obtain⟨f0,f1,f2,f3,f4,f5⟩:=hf it ∎;have hl:=rv.length;exact wpAny_pyNext_tuple_end (I.ok.hd hc) st (show s.heap.IsTuple a its.toArray from p) (by simp;lia) λh' eb=>⟨rfl,I.turned (t':=s.toks) (λb o hb e=>eb b o hb e) f0 f1 f3 f4 f5⟩
 self:=λ_ _ _ _ _ st h=>wpAny_pyIter_tupleiter st h
def bg1{w:Aq}{K:AN}(it:AI)(lo:Int)(n:Nat):Turn P w K tg (Itr lo n) [it] it (λi h=>IsRangeIter h it (lo+(i:Nat)*1) ((n:Int)-(i:Nat)) 1) where
 mem:=by simp
 obj:=λi h st b hb=>by
  simp_all
 keep:=λi h h' st k=>k it ∎ _ st
 item:=by
  intro X hP hw hK hc i pins s σ H E I hf st hg;subst hP hw hK;obtain⟨f0,f1,f2,f3,f4,f5⟩:=hf it ∎;have W:=Walks.range (prog:=X.prog) (w:=X.w) (I.ok.hd hc) it lo 1 n;refine W.item i s _ _ hg st λv h' tk hv st' kk=>?_;obtain⟨t,rfl⟩:=hv;have I1:Inv X pins σ H {s with heap:=h',toks:=tk}:=I.turned (λb o hb e=>kk b o (by simpa using hb) e) f0 f1 f3 f4 f5;refine⟨_,rfl,Y4 (s:={s with heap:=h',toks:=tk}) (n:="range_iterator") st' rfl rfl ∅ ⟨.int (lo+i),H,I1,⟨t,?_⟩,⟨rfl,rfl⟩,st',λb hb=>(hf b hb).1⟩⟩;rw[Int.mul_one]
 done:=by
  intro X hP hw hK hc i pins s σ H E I hf st hg;obtain⟨f0,f1,f2,f3,f4,f5⟩:=hf it ∎;exact wpAny_pyNext_range_end (I.ok.hd hc) st (by have:n<=i:=hg;lia) λh' eb=>⟨rfl,I.turned (t':=s.toks) (λb o hb e=>eb b o hb e) f0 f1 f3 f4 f5⟩
 self:=λ_ _ _ _ _ st h=>wpAny_pyIter_rangeiter st h
end L2
namespace L2
open PySem PySem.Spec PyProof.Rows
variable{pins:List (AI×Obj)}{σ:St}{H:Hp}{s:AL}
section
variable {X:Cx} {tg:AR}
def aq3{R}{E}{lo hi}{t u v}{tk}(I:Inv X pins σ H s)(h1:-(2^62)<=lo)(h2:lo<2^62)(h3:-(2^62)<=hi)(h4:hi<2^62)
  (q:R (Itr lo (hi-lo).toNat) H):AV (model X.prog X.w) X.A (Hh (.ref s.heap.objs.size)) (PIE X pins σ tg R) E {s with heap:=s.heap.push {cls:=.type "range",data:=.fields #[.int lo t,.int hi u,.int 1 v]},toks:=tk}:=by
 refine wpAny_pyIter_range (IsRange.new ..) (small_one h1 h2 h3 h4) ?_;have I1:Inv X pins σ H {s with heap:=s.heap.push {cls:=.type "range",data:=.fields #[.int lo t,.int hi u,.int 1 v]},toks:=tk}:=I.kept λb o=>AQ _;refine⟨(s.heap.push {cls:=.type "range",data:=.fields #[.int lo t,.int hi u,.int 1 v]}).objs.size,[(s.heap.push {cls:=.type "range",data:=.fields #[.int lo t,.int hi u,.int 1 v]}).objs.size],_,_,H,rfl,
  I1.kept λb o=>AQ _,bg1 _ lo (hi-lo).toNat,?_,λb hb=>?_,q⟩
 ·have e1:lo+((0:Nat))*1=lo:=by simp
  have e2:((hi-lo).toNat:Nat)-((0:Nat))=KG lo hi 1:=by rw[rangeSize_one];split<;>lia
  rw[e1,e2];exact Ai _ rfl
 ·have e:b=(s.heap.push {cls:=.type "range",data:=.fields #[.int lo t,.int hi u,.int 1 v]}).objs.size:=by simpa using hb
  subst e;exact I1.fpOk (AW _) (I1.hok.fresh (AW _))
abbrev cj7(ta:TA):TI:=λσ H R=>ta σ H λvs H1=>∃j:Int,vs=[.int j]/\-(2^62)<=j/\j<2^62/\R (Itr 0 j.toNat) H1
abbrev ck6(ta:TA):TI:=λσ H R=>ta σ H λvs H1=>∃i j:Int,vs=[.int i,.int j]/\(-(2^62)<=i/\i<2^62/\-(2^62)<=j/\j<2^62)/\R (Itr i (j-i).toNat) H1
def bj6{a:AR}{ta:TA}{p pos:Pos}(hg:Gl X "range")(hm:X.mg "range"=AC)(ha:PA X [a] ta)(hs:Am [a] X.env=[(AH,eval a X.env)]:=by rfl):PI X tg (.Call (.Name "range" p) [a] [] pos) (cj7 ta):=by
 intro pins s σ H R I h;refine Jn (A9 I hg hm boot_range (BY (thn (ha pos pins s σ H _ I h) λus s1 z14=>?_) hs rfl));obtain⟨vs,H1,I1,r1,q1⟩:=z14;obtain⟨j,e,q1,q2,q⟩:=q1;subst e;cases r1 with
 |cons r rr=>
  cases rr;obtain⟨t,rfl⟩:=r;exact call_range_1 (aq3 I1 ⋯ ⋯ q1 q2 (by simpa using q))
def bi5{a b:AR}{ta:TA}{p pos:Pos}(hg:Gl X "range")(hm:X.mg "range"=AC)(ha:PA X [a,b] ta)(hs:Am [a,b] X.env=[(AH,eval a X.env),(AH,eval b X.env)]:=by rfl)(hs2:Am [b] X.env=[(AH,eval b X.env)]:=by rfl):
  PI X tg (.Call (.Name "range" p) [a,b] [] pos) (ck6 ta):=by
 intro pins s σ H R I h;refine Jn (A9 I hg hm boot_range (BY (thn (ha pos pins s σ H _ I h) λus s1 z15=>?_) (by rw[hs,hs2]) (by rw[hs2];rfl)));obtain⟨vs,H1,I1,r1,q1⟩:=z15;obtain⟨i,j,e,⟨q1,q2,q3,q4⟩,q⟩:=q1;subst e;cases r1 with
 |cons r rr=>
  cases rr with
  |cons r' rr=>
   cases rr;obtain⟨t,rfl⟩:=r;obtain⟨t',rfl⟩:=r';exact call_range_2 (aq3 I1 q1 q2 q3 q4 q)
abbrev cv7(wi:TI)(g:TG)(tb:TS):TS:=λD σ H=>wi σ H λJ H1=>∃W:Nat->Nat->St->Hp->Prop,(∃m,W 0 m σ H1)/\∀i m σ H,W i m σ H ->
 (J.stop i H/\D.nx σ H)\/(J.go i H/\∃N:St->Hp->Prop,(∀σ' H',N σ' H'->∃m',m'<m/\W (i+1) m' σ' H')/\∀x H',J.yld i H x H'->g x σ H' λσ2 H2=>tb {D with nx:=N,ct:=N,bk:=D.nx} σ2 H2)
abbrev R0(fp:List AI)(h:Heap):List (AI×Obj):=fp.filterMap λb=>(h.get? b).map λo=>(b,o)
def U0{fp:List AI}{h:Heap}{b:AI}{o:Obj}(hb:b∈fp)(e:h.get? b=AA o):(b,o)∈R0 fp h:=IP.mpr ⟨b,hb,by rw[e];rfl⟩
def bj0{fp:List AI}{h:Heap}{p:AI×Obj}(hp:p∈R0 fp h):p.1∈fp/\h.get? p.1=AA p.2:=by
 obtain⟨b,hb,e⟩:=IP.mp hp;cases q:h.get? b with
 |none=>rw[q]at e;cases e
 |some o=>
  rw[q]at e;have e':(b,o)=p:=Ag e;subst e';exact⟨hb,q⟩
def Inv.pinned{fp:List AI}(I:Inv X pins σ H s)(hf:∀b∈fp,t7 X pins H b)(ho:∀b∈fp,∃o,s.heap.get? b=AA o/\∀v,o.data≠.cell v):Inv X (pins++R0 fp s.heap) σ H s:=
 I.pins_of λp hp=>(BR.mp hp).elim (λz=>I.pin p (BF _ z)) λz=>by
  obtain⟨hb,e⟩:=bj0 z;obtain⟨f0,f1,f2,_⟩:=hf p.1 hb;obtain⟨o,e',d⟩:=ho p.1 hb;rw[e]at e';cases e';exact⟨e,f0,f1,f2,d⟩
def Inv.unpinned{pl}(I:Inv X (pins++pl) σ H s):=I.pins_of λp hp=>I.pin p (BF _ (CI _ hp))
def b92{iter:AR}{body:List BV}{wi:TI}{g:TG}{tb:TS}{pos:Pos}(hp:HB (model X.prog X.w) X.A X.env X.xe)(hc:X.calm=AB)(hi:PI X tg iter wi)(hg:PG X tg g)(hb:PSs X body tb)
  (hs:∀x,Dc iter X.env x=pure x:=by intro _;rfl):PS X (.For tg iter body [] pos) (cv7 wi g tb):=by
 intro pins s σ H D I h;refine wpAny_For (thn (hi pins s σ H _ I h) λv s1 h1=>thn h1 λitv s2 h2=>?_) hs;obtain⟨it,fp,tn,J,H2,e,I2,T,st2,f2,W,⟨m0,w0⟩,turn⟩:=h2;subst e;have stat:∀{H':Hp},(∀b∈fp,H' b=AC)->∀b∈fp,t7 X pins H' b:=λhn b hb=>⟨hn b hb,(f2 b hb).2⟩;refine codeAny_forLoop_any (λn s'=>∃i σ' H',Inv X pins σ' H' s'/\tn i s'.heap/\(∀b∈fp,H' b=AC)/\W i n σ' H') ?_ m0 ⟨0,σ,H2,I2,st2,λb hb=>(f2 b hb).1,w0⟩;rintro n s3 ⟨i,σ3,H3,I3,st3,fr3,w3⟩
 rcases turn i n σ3 H3 w3 with⟨stop,qn⟩|⟨go,N,hN,step⟩
 ·refine Cf hp (thn (T.done X rfl rfl rfl hc i pins s3 σ3 H3 X.xe I3 (stat fr3) st3 stop) λr s4⟨hr,I4⟩=>?_);subst hr;exact HN ⟨σ3,H3,I4,qn⟩
 ·refine Cf hp (thn (T.item X rfl rfl rfl hc i pins s3 σ3 H3 X.xe I3 (stat fr3) st3 go) λr s4⟨u,hr,h4⟩=>?_);subst hr;refine Cf hp (thn h4 λ_ s5 z16=>?_);obtain⟨x,H5,I5,r5,y5,st5,fr5⟩:=z16;have I5':=I5.pinned (stat fr5) (T.obj _ _ st5);refine Cf hp (thn (hg _ s5 σ3 H5 x u _ I5' r5 (step x H5 y5)) λ_ s6 z17=>?_);obtain⟨σ6,H6,I6,q6⟩:=z17;refine Cf hp (thn (hb _ s6 σ6 H6 _ I6 q6) λf s7 q7=>?_);have again:∀{σ7:St}{H7:Hp},Inv X (pins++R0 fp s5.heap) σ7 H7 s7->N σ7 H7->∃m,m<n/\∃i σ' H',Inv X pins σ' H' s7/\tn i s7.heap/\(∀b∈fp,H' b=AC)/\W i m σ' H':=λ{σ7 H7}I7 n7=>by
   obtain⟨m',hm,w7⟩:=hN σ7 H7 n7;refine⟨m',hm,i+1,σ7,H7,I7.unpinned,T.keep _ _ _ st5 λb hb o e=>(I7.pin (b,o) (BF _ (BF _ (U0 hb e)))).1,λb hb=>?_,w7⟩;obtain⟨o,e,d⟩:=T.obj _ _ st5 b hb;exact(I7.pin (b,o) (BF _ (BF _ (U0 hb e)))).2.1
  cases f with
  |next=>obtain⟨σ7,H7,I7,n7⟩:=q7;exact again I7 n7
  |cont=>obtain⟨σ7,H7,I7,n7⟩:=q7;exact again I7 n7
  |brk=>obtain⟨σ7,H7,I7,q7⟩:=q7;exact⟨σ7,H7,I7.unpinned,q7⟩
  |ret v=>obtain⟨x7,σ7,H7,I7,r7,q7⟩:=q7;exact⟨x7,σ7,H7,I7.unpinned,r7,q7⟩
end
end L2
namespace L2
open PySem PySem.Spec PyProof.Rows
variable{op:Eo}
@[reducible]noncomputable def R2:=V->V->Hp->VK->Prop
variable{r:R2}
abbrev OpR(X:Cx)(f:AG->AG->Sem AG)(r:R2):Prop:=
 ∀(pins:List (AI×Obj))(s:AL)(σ:St)(H:Hp)(x y:V)(v u:AG)(Q:VK),Inv X pins σ H s->c8 x v->c8 y u->r x y H Q ->
  AV (model X.prog X.w) X.A (f v u) (EP X pins σ Q) X.xe s
abbrev UnR(X:Cx)(f:AG->Sem AG)(r:V->Hp->VK->Prop):Prop:=
 ∀(pins:List (AI×Obj))(s:AL)(σ:St)(H:Hp)(x:V)(v:AG)(Q:VK),Inv X pins σ H s->c8 x v->r x H Q ->
  AV (model X.prog X.w) X.A (f v) (EP X pins σ Q) X.xe s
abbrev z7(X:Cx)(f:AG)(r:List V->Hp->VK->Prop):Prop:=
 ∀(pins:List (AI×Obj))(s:AL)(σ:St)(H:Hp)(xs:List V)(us:List AG)(Q:VK),Inv X pins σ H s->c0 xs us->r xs H Q ->
  AV (model X.prog X.w) X.A (call f us) (EP X pins σ Q) X.xe s
abbrev tOp(r:R2)(ta tb:TE):TE:=λσ H Q=>ta σ H λx H1=>tb σ H1 λy H2=>r x y H2 Q
abbrev tUn(r:V->Hp->VK->Prop)(ta:TE):TE:=λσ H Q=>ta σ H λx H1=>r x H1 Q
abbrev rI(C:Int->Int->Prop)(g:Int->Int->V):R2:=λx y H Q=>∃i j,x=.int i/\y=.int j/\C i j/\Q (g i j) H
abbrev rI0(g:Int->Int->V):R2:=λx y H Q=>∃i j,x=.int i/\y=.int j/\Q (g i j) H
abbrev rU(g:Int->V):V->Hp->VK->Prop:=λx H Q=>∃i,x=.int i/\Q (g i) H
section
variable {X:Cx} {a b c:AR} {ta tb tc:TE} {pos:Pos}
def al0(ha:PE X a ta)(hb:PE X b tb){pins}{s}{σ:St}{H}{R:V->V->Hp->Prop}(I:Inv X pins σ H s)
  (h:ta σ H λx H1=>tb σ H1 λy H2=>R x y H2) {Q} {f:AG->AG->Sem AG}
  (hf:∀v u s2 x y H2,Inv X pins σ H2 s2->c8 x v->c8 y u->R x y H2->AV (model X.prog X.w) X.A (f v u) Q X.xe s2) :
  AV (model X.prog X.w) X.A (eval a X.env) (λv s₁=>AV (model X.prog X.w) X.A (eval b X.env) (λu s₂=>AV (model X.prog X.w) X.A (f v u) Q X.xe s₂) X.xe s₁) X.xe s:=by
 refine thn (ha pins s σ H _ I h) λv s1 z18=>?_;obtain⟨x,H1,I1,r1,q1⟩:=z18;refine thn (hb pins s1 σ H1 _ I1 q1) λu s2 z19=>?_;obtain⟨y,H2,I2,r2,q2⟩:=z19;exact hf v u s2 x y H2 I2 r1 r2 q2
def G5{op}(ho:OpR X (Cr op) r)(ha:PE X a ta)(hb:PE X b tb):PE X (.BinOp a op b pos) (tOp r ta tb):=(λpins s σ H Q I h=>wpAny_BinOp (al0 ha hb I h λv u s2 x y H2 I2=>ho pins s2 σ H2 x y v u Q I2))
def cq4{op}{r}(ho:UnR X (unaryOp op) r)(ha:PE X a ta):PE X (.UnaryOp op a pos) (tUn r ta):=λpins s σ H Q I h=>UnaryOp_ (thn (ha pins s σ H _ I h) λv s1⟨x,H1,I1,r1,q1⟩=>ho pins s1 σ H1 x v Q I1 r1 q1)
def opI{f}{C}{g:Int->Int->Int}
  (rule:∀i j(t u)s(Q)E,C i j->Q (.int (g i j) s.toks) {s with toks:=s.toks+1}->AV (model X.prog X.w) X.A (f (.int i t) (.int j u)) Q E s) :
  OpR X f (rI C λi j=>.int (g i j)):=by
 intro pins s σ H x y v u Q I rx ry h;obtain⟨i,j,rfl,rfl,hc,q⟩:=h;obtain⟨t,rfl⟩:=rx;obtain⟨t',rfl⟩:=ry;exact rule i j t t' s _ _ hc ⟨.int (g i j),H,I.tok _,⟨_,rfl⟩,q⟩
def ba4{f}{g:Int->Int->Int}
  (rule:∀i j(t u)s(Q)E,Q (.int (g i j) s.toks) {s with toks:=s.toks+1}->AV (model X.prog X.w) X.A (f (.int i t) (.int j u)) Q E s) :
  OpR X f (rI0 λi j=>.int (g i j)):=by
 intro pins s σ H x y v u Q I rx ry h;obtain⟨i,j,rfl,rfl,q⟩:=h;obtain⟨t,rfl⟩:=rx;obtain⟨t',rfl⟩:=ry;exact rule i j t t' s _ _ ⟨.int (g i j),H,I.tok _,⟨_,rfl⟩,q⟩
def Z1{f}{g:Int->Int->Bool}
  (rule:∀i j(t u)s(Q)E,Q (.bool (g i j)) s->AV (model X.prog X.w) X.A (f (.int i t) (.int j u)) Q E s) :
  OpR X f (rI0 λi j=>.bl (g i j)):=by
 intro pins s σ H x y v u Q I rx ry h;obtain⟨i,j,rfl,rfl,q⟩:=h;obtain⟨t,rfl⟩:=rx;obtain⟨t',rfl⟩:=ry;exact rule i j t t' s _ _ ⟨.bl (g i j),H,I,rfl,q⟩
abbrev aj5(i j:Int):Prop:=0<=j/\j<=1000000/\i.natAbs<2^64
abbrev ak1(i j:Int):Prop:=(-(2^64)<i/\i<2^64)\/(-(2^64)<j/\j<2^64)
def ak1.ok{i j}(h:ak1 i j):Kl i j:=by
 rcases h with⟨h1,h2⟩|⟨h1,h2⟩
 ·exact .of_left (intBits_le_64 h1 h2)
 ·exact .of_right (intBits_le_64 h1 h2)
def cf0:OpR X (Cr .Add) (rI0 λi j=>.int (i+j)):=ba4 λ_ _ _ _ _ _ _=>add_int
def cf7:OpR X (Cr .Sub) (rI0 λi j=>.int (i-j)):=ba4 λ_ _ _ _ _ _ _=>sub_int
def b26:OpR X (Cr .Mod) (rI (λ_ j=>0<j) λi j=>.int (i % j)):=opI λi j _ _ _ _ _ hc q=>by
 exact mod_int' ⋯ (by rw[Int.fmod_eq_emod_of_nonneg i ⋯];exact q)
def b91:OpR X (Cr .Pow) (rI aj5 λi j=>.int (i^j.toNat)):=opI λ_ _ _ _ _ _ _ hc=>pow_int_small hc.1 hc.2.1 hc.2.2
def unI{f}{g:Int->Int}
  (rule:∀i(t)s(Q)E,Q (.int (g i) s.toks) {s with toks:=s.toks+1}->AV (model X.prog X.w) X.A (f (.int i t)) Q E s) :
  UnR X f (rU λi=>.int (g i)):=by
 intro pins s σ H x v Q I rx h;obtain⟨i,rfl,q⟩:=h;obtain⟨t,rfl⟩:=rx;exact rule i t s _ _ ⟨.int (g i),H,I.tok _,⟨_,rfl⟩,q⟩
def cf3:UnR X (unaryOp .USub) (rU λi=>.int (-i)):=unI λ_ _ _ _ _=>neg_int
end
section
variable {X:Cx} {a b c:AR} {ta tb tc:TE} {pos:Pos}
def cp8:OpR X (CJ .Lt) (rI0 λi j=>.bl (AE (i<j))):=Z1 λ_ _ _ _ _ _ _=>lt_int
def cl4:OpR X (CJ .LtE) (rI0 λi j=>.bl (AE (i<=j))):=Z1 λ_ _ _ _ _ _ _=>le_int
def cm6:OpR X (CJ .Gt) (rI0 λi j=>.bl (AE (j<i))):=Z1 λ_ _ _ _ _ _ _=>gt_int
def ch6:OpR X (CJ .GtE) (rI0 λi j=>.bl (AE (j<=i))):=Z1 λ_ _ _ _ _ _ _=>ge_int
def OpR.or{f}{r'}(h:OpR X f r)(h':OpR X f r'):OpR X f λx y H Q=>r x y H Q\/r' x y H Q:=by
 intro pins s σ H x y v u Q I rx ry q
 rcases q with q|q
 ·exact h pins s σ H x y v u Q I rx ry q
 ·exact h' pins s σ H x y v u Q I rx ry q
def c00(b:AR)(h:op≠.In:=by decide)(h2:op≠.NotIn:=by decide):CM op b=AH:=by
 have e1:(op==CmpOp.In)=AH:=by cases op<;>first|rfl|exact absurd rfl h
 have e2:(op==Jk)=AH:=by cases op<;>first|rfl|exact absurd rfl h2
 cases b<;>simp[CM,e1,e2]
def b14(ho:OpR X (CJ op) r)(ha:PE X a ta)(hb:PE X b tb)(hm:CM op b=AH):PE X (.Compare a [op] [b] pos) (tOp r ta tb):=(λpins s σ H Q I h=>Kk (al0 ha hb I h λv u s2 x y H2 I2=>ho pins s2 σ H2 x y v u Q I2) hm)
abbrev co3(t:TE):TT:=λσ H Q=>t σ H λx H'=>∃k,x=.bl k/\Q k H'
def bs9(ho:OpR X (CJ op) r)(ha:PE X a ta)(hb:PE X b tb)(hm:CM op b=AH):PT X (.Compare a [op] [b] pos) (co3 (tOp r ta tb)):=by
 intro pins s σ H Q I h;refine Iq (thn (ha pins s σ H _ I h) λv s1⟨x,H1,I1,r1,q1⟩=>thn (hb pins s1 σ H1 _ I1 q1) λu s2⟨y,H2,I2,r2,q2⟩=>
  thn (ho pins s2 σ H2 x y v u _ I2 r1 r2 q2) λc s3⟨z,H3,I3,r3,k,e,q3⟩=>?_) hm
 subst e;cases r3;exact CK ⟨H3,I3,q3⟩
def Q0:(sizeLine:Nat)<2^63:=by rw[sizeLine_eq];decide
def S5{x}{us}(r:c0 [x] us):∃u,us=[u]/\c8 x u:=by
 cases r with
 |cons r1 r2=>cases r2;exact⟨_,rfl,r1⟩
def cp9{x y}{us}(r:c0 [x,y] us):∃u w',us=[u,w']/\c8 x u/\c8 y w':=by
 cases r with
 |cons r1 r2=>
  cases r2 with
  |cons r3 r4=>cases r4;exact⟨_,_,rfl,r1,r3⟩
def bj3(hc:X.calm=AB):z7 X (.builtin "min") (λxs H Q=>∃i j,xs=[.int i,.int j]/\Q (.int (if j<i then j else i)) H):=by
 intro pins s σ H xs us Q I r h;obtain⟨i,j,rfl,q⟩:=h;obtain⟨u,w',rfl,⟨t,rfl⟩,⟨t',rfl⟩⟩:=cp9 r;refine min_two_ints (I.ok.hd hc) λh' tk k=>⟨_,H,I.kept k,?_,q⟩
 by_cases hj:j<i
 ·rw[if_pos hj,if_pos hj];exact⟨_,rfl⟩
 ·rw[if_neg hj,if_neg hj];exact⟨_,rfl⟩
def bi0:z7 X (.type "int") λxs H Q=>(∃i,xs=[.int i]/\Q (.int i) H)\/∃k,xs=[.bl k]/\Q (.int (if k then 1 else 0)) H:=by
 intro pins s σ H xs us Q I r h
 rcases h with⟨i,rfl,q⟩|⟨k,rfl,q⟩
 ·obtain⟨u,rfl,t,rfl⟩:=S5 r;exact call_int_int ⟨.int i,H,I,⟨_,rfl⟩,q⟩
 ·obtain⟨u,rfl,r1⟩:=S5 r;cases r1;exact call_int_bool ⟨.int (if k then 1 else 0),H,I.tok _,⟨_,rfl⟩,q⟩
end
end L2
namespace L2
open PySem PySem.Spec PyProof.Rows
variable{h:Heap}{dx C:AI}{mA:Str->Option AG}{A:BP}{s:AL}{f:Str}{v:V}{Q:AG->AL->Prop}{u:AG}{H:Hp}{X:Cx}
structure ObjM(h:Heap)(x dx C:AI)(mA:Str->Option AG):Prop where
 obj:h.get? x=AA (EJ C dx)
 ns:h.Ns1 dx mA
 ne:dx≠x
def bh8(n:h.Ns1 dx mA):∃od,h.get? dx=AA od/\∀name,IY name od=AA (mA name):=by
 obtain⟨o,es,ep,ho,hd,hk,_,hm⟩:=n;refine⟨o,ho,λname=>?_⟩;have e:=hm name;unfold nsFind findBy at e;rw[<-Array.find?_toList]at e;unfold IY;rw[hd];dsimp only
 split
 ·simp_all
 ·rename_i q;rw[q]at e;have a:es.toList.any (·.refKey)=AH:=by
   rw[Fw];intro y hy;obtain⟨z,t,hkey⟩:=hk y (Array.mem_toList_iff.mp hy);simp[DictEntry.refKey,hkey]
  have a':=a▸AK
  rw[if_neg a'];exact congrArg AA e
def ObjM.look{x:AI}(I:ObjM h x dx C mA):∃od,W.InstAt h x (EJ C dx) C (AA od)/\∀name,IY name od=AA (mA name):=
 let⟨od,ho,hl⟩:=bh8 I.ns
 ⟨od,⟨I.obj,rfl,rfl,ho⟩,hl⟩
section
variable {prog:Ah} {w:Aq} {E:AG->AL->Prop} {K:AN} {x f:AI} {name:Str} {v:AG}
def b07{expr}(X:K.In s.heap)(I:ObjM s.heap x dx C mA)(hg:GE K C name=AB)(hh:Gu K C=AB)
  (ha:BL K (.ref C) name=AA AC) (hv:mA name=AA v) (hv':W.handedIn v=AB) (h:Q v {s with toks:=s.toks+1}) :
  AV (model prog w) A (getAttr (.ref x) name expr) Q E s:=by
 obtain⟨od,J,hl⟩:=I.look;exact W.get_value X J (Hi hg).1 (W.findObj_own hh ha rfl (by rw[hl,hv])) hv' h
def bq5{pl}{Q}(X:K.In s.heap)(I:ObjM s.heap x dx C mA)(hg:GE K C name=AB)
  (hf:BL K (.ref C) name=AA (AA (.ref f))) (ht:KH K (.ref f)=AB) (hv:mA name=AC) (h:Q (.ref f,[.ref x]) s) :
  AV (model prog w) A (KI (.ref x) name pl) Q E s:=by
 obtain⟨od,J,hl⟩:=I.look;exact W.method_fn X J (Hi hg).1 (Hi hg).2 hf (beq_iff_eq.mp ht) (by show(IY name od).map (·.isSome)=AA AH;rw[hl,hv];rfl) h
def bu9{ns:List Str}{Q:Unit->AL->Prop}(X:K.In s.heap)(I:ObjM s.heap x dx C mA)
  (hs:BL K (.ref C) "__setattr__"=AA (AA (.builtin "object.__setattr__"))) (hp:IZ K C=AB) (ht:JY K C name=AA AC) (hh:Gu K C=AB)
  (hw:PySem.Within mA ns) (hsz:ns.length<=sizeLine)
  (h:∀h',ObjM h' x dx C (λy=>if y=name then AA v else mA y)->Heap.SameBut dx s.heap h'->Q () {s with heap:=h',toks:=s.toks+2}) :
  AV (model prog w) A (setAttr (.ref x) name v) Q E s:=by
 obtain⟨od,J,hl⟩:=I.look;refine W.set_plain X J hs (W.osa_open (s:={s with toks:=s.toks+1}) (r:=AC) X J hp ht λb=>?_);obtain⟨cd,hc,hd'⟩:=W.any_some hh;have hx:s.heap.get? x=AA ⟨.ref C,AA dx,.plain,#[]⟩:=I.obj;refine AD (AJ (AD (AD (wpAny_loadPart hx (AD (W.Looks.here (s:={s with toks:=s.toks+1}) (W.looks_clsIn X hc) ?_))))));rw[hd'];refine AJ (a:=AA dx) (AD (AJ (AD ?_)));refine wpAny_nsSet1 (s:={s with toks:=s.toks+1}) I.ns λh' hn2 hs2=>?_;obtain⟨oD,esD,epD,hoD,hdD,hcD⟩:=hn2.count (PySem.Within.cons name v hw);refine AD (wpAny_lookBehind hoD (by rw[hdD];exact pastItsLine_dict (Ay hcD (by rw[AS];lia))) ?_);exact AJ (h _ ⟨(hs2.2 _ (DF I.ne)).trans I.obj,hn2,I.ne⟩ hs2)
def bm6{R}{vs}{kw}(X:K.In s.heap)(hm:IB K C=AB)
  (hi:BL K (.ref C) "__init__"=AA (AA (.ref f))) (hf:W.typeIn K (.ref f)=AA (.type "function"))
  (h:Dw (model prog w) (A.under (.builtin "type.__call__" ⟨.ref C::vs,kw⟩)) (.call (.ref f) ⟨.ref (s.heap.objs.size+1)::vs,kw⟩) (W.InitBack (s.heap.objs.size+1) R)
   {s with heap:=(s.heap.push Cn).push (EJ C s.heap.objs.size)}) :
  Dw (model prog w) A (.call (.ref C) ⟨vs,kw⟩) R s:=by
 exact W.make_core (W.makes_of X hm) (W.looks_findIn X hi) (λself=>W.bind_fn X self hf) (.inl rfl) h
end
abbrev p7(f:Str)(v:V):List (Str×V)->List (Str×V)
 |[]=>[(f,v)]
 |(g,x)::r=>if g=f then(g,v)::r else(g,x)::p7 f v r
theorem am2 f g(v):∀fs,(p7 f v fs).lookup g=if g=f then AA v else fs.lookup g
 |[]=>by
  show DG g [(f,v)]=_
  by_cases h:g=f
  ·simp_all
  ·simp_all
 |(k,x)::r=>by
  have ih:=am2 f g v r;rw[show p7 f v ((k,x)::r)=if k=f then(k,v)::r else(k,x)::p7 f v r from rfl]
  by_cases hk:k=f
  ·rw[if_pos hk]
   by_cases h:g=k
   ·simp_all
   ·have hb:=beq_eq_false_iff_ne.mpr h;simp only[DG,hb,if_neg λe:g=f=>h (e.trans hk.symm)]
  ·rw[if_neg hk]
   by_cases h:g=k
   ·simp_all
   ·have hb:=beq_eq_false_iff_ne.mpr h;simp only[DG,hb];exact ih
theorem ad3 f(v):∀fs:List (Str×V),f∈(p7 f v fs).map (·.1)/\∀g,g∈fs.map (·.1)->g∈(p7 f v fs).map (·.1)
 |[]=>⟨by simp[p7],λg h=>by simp at h⟩
 |(k,x)::r=>by
  obtain⟨i1,i2⟩:=ad3 f v r;rw[show p7 f v ((k,x)::r)=if k=f then(k,v)::r else(k,x)::p7 f v r from rfl]
  by_cases hk:k=f
  ·simp_all
  ·rw[if_neg hk];refine⟨?_,λg h=>?_⟩
   ·exact BA _ i1
   ·rcases Ae.mp h with e|e
    ·exact mem_cons.mpr (.inl e)
    ·exact BA _ (i2 g e)
theorem al9 f(v):∀fs,(p7 f v fs).length<=fs.length+1
 |[]=>by simp[p7]
 |(k,x)::r=>by
  have ih:=al9 f v r;rw[show p7 f v ((k,x)::r)=if k=f then(k,v)::r else(k,x)::p7 f v r from rfl]
  by_cases hk:k=f
  ·simp_all
  ·simp_all
def t8.some_of{o}(r:t8 (AA v) o):∃u,o=AA u/\c8 v u:=by
 cases o with
 |none=>exact(r).elim
 |some u=>exact⟨u,rfl,r⟩
def t8.none_of{o}(r:t8 AC o):o=AC:=by
 cases o with
 |none=>rfl
 |some u=>exact(r).elim
def bj4(r:c8 v u):W.handedIn u=AB:=by
 cases v with
 |non=>cases r;rfl
 |bl b=>cases r;rfl
 |int i=>obtain⟨t,e⟩:=r;cases e;rfl
 |str x=>obtain⟨t,e⟩:=r;cases e;rfl
 |byt b=>obtain⟨t,e⟩:=r;cases e;rfl
 |flt b=>obtain⟨t,e⟩:=r;cases e;rfl
 |ref a=>cases r;rfl
 |ty n=>cases r;rfl
section
variable {P:Ah} {w:Aq} {H':Hp} {h':Heap} {a:AI} {fs fs':List (Str×V)}
def V7(hok:HOk P w H h)(e:H a=AA (.ins C dx fs)):∃mA,ObjM h a dx C mA/\(∀f,t8 (fs.lookup f) (mA f))/\PySem.Within mA (fs.map (·.1))/\fs.length<=1000/\H dx=AA (.own a):=by
 obtain⟨d,z,ne,ob,mA,n,r,q⟩:=(hok a _ e);exact⟨mA,⟨ob,n,ne⟩,r,q,z,d⟩
end
structure Cls(K:AN)(C:AI):Prop where
 pg:GE K C Str.empty=AB
 hd:Gu K C=AB
 po:IZ K C=AB
 sa:BL K (.ref C) "__setattr__"=AA (AA (.builtin "object.__setattr__"))
def Cls.get{K:AN}(c:Cls K C)(f:Str):GE K C f=AB:=c.pg
abbrev x9(K:AN)(C:AI)(f:Str):Prop:=BL K (.ref C) f=AA AC
def x9.taker{K}(n:x9 K C f):JY K C f=AA AC:=by
 unfold JY;rw[n];rfl
structure Meth(K:AN)(C:AI)(m:Str)(f:AI):Prop where
 at_:BL K (.ref C) m=AA (AA (.ref f))
 fn:KH K (.ref f)=AB
 kp:Bo K (.ref f)=AB
section
variable {pins:List (AI×Obj)} {σ:St} {a:AI} {fs:List (Str×V)} {E:AG->AL->Prop}
def bf4{b}(I:Inv X pins σ H s)(e:H a=AA (.ins C dx fs))(c:Cls X.K C)(n:x9 X.K C f)(l:fs.lookup f=AA v)
  (h:∀u s',Inv X pins σ H s'->c8 v u->Q u s'):AV (model X.prog X.w) A (getAttr (.ref a) f b) Q E s:=by
 obtain⟨mA,O,r,_,_,_⟩:=V7 I.hok e;obtain⟨u,hu,ru⟩:=t8.some_of (l▸r f);exact b07 I.kIn O (c.get f) c.hd n hu (bj4 ru) (h u _ (I.tok _) ru)
def am5{m}{g}{pl}{Q}(I:Inv X pins σ H s)(e:H a=AA (.ins C dx fs))(c:Cls X.K C)(k:Meth X.K C m g)(l:fs.lookup m=AC)
  (h:Q (.ref g,[.ref a]) s):AV (model X.prog X.w) A (KI (.ref a) m pl) Q E s:=by
 obtain⟨mA,O,r,_,_,_⟩:=V7 I.hok e;have hn:=t8.none_of (l▸r m);exact bq5 I.kIn O (c.get m) k.at_ k.fn hn h
def be1{y:V}{Q:Unit->AL->Prop}(I:Inv X pins σ H s)(e:H a=AA (.ins C dx fs))(c:Cls X.K C)(n:x9 X.K C f)(hl:fs.length<1000)(ry:c8 y u)
  (h:∀s',Inv X pins σ (upd H a (.ins C dx (p7 f y fs))) s'->Q () s'):AV (model X.prog X.w) A (setAttr (.ref a) f u) Q E s:=by
 obtain⟨mA,O,r,wi,_,ho⟩:=V7 I.hok e;have hz:(fs.map (·.1)).length<=sizeLine:=by rw[AX,sizeLine_eq];lia
 refine bu9 I.kIn O c.sa c.po n.taker c.hd wi hz λh' O' sb=>h _ ?_;have hd:∃o,h'.get? dx=AA o:=let⟨o,_,_,e',_⟩:=O'.ns;⟨o,e'⟩;refine I.write (x:=a) (e:=dx) (by rw[e];exact CS) (.inr ho) (λb q hb z=>(sb.2 b hb).trans z) hd ?_;refine⟨by rw[e8 O.ne];exact ho,?_,O.ne,O'.obj,_,O'.ns,λg=>?_,λg hg=>?_⟩
 ·have:=al9 f y fs;lia
 ·rw[am2]
  by_cases q:g=f
  ·rw[if_pos q,if_pos q];exact ry
  ·rw[if_neg q,if_neg q];exact r g
 ·by_cases q:g=f
  ·rw[q];exact(ad3 f y fs).1
  ·refine(ad3 f y fs).2 g (wi g λz=>hg ?_);show(if g=f then AA u else mA g)=AC;rw[if_neg q];exact z
def Inv.made(I:Inv X pins σ H s):Inv X pins σ (upd (upd H s.heap.objs.size (.own (s.heap.objs.size+1))) (s.heap.objs.size+1) (.ins C s.heap.objs.size []))
  {s with heap:=(s.heap.push Cn).push (EJ C s.heap.objs.size)}:=by
 have e1:(s.heap.push Cn).get? s.heap.objs.size=AA Cn:=Ai s.heap rfl;have e2:((s.heap.push Cn).push (EJ C s.heap.objs.size)).get? (s.heap.objs.size+1)=AA (EJ C s.heap.objs.size):=by
  have:=Ai (s.heap.push Cn) (o:=EJ C s.heap.objs.size) rfl
  rwa [Dp]at this
 have e3:(s.heap.push Cn).Ns s.heap.objs.size (λ_=>AC):=⟨Cn,#[],_,e1,rfl,(λe he=>absurd he ∎),λ_=>rfl⟩;have I1:=I.laid (a:=s.heap.objs.size) (o:=.own (s.heap.objs.size+1)) (h':=s.heap.push Cn) (t':=s.toks) (λb u q=>AQ _ q) (AW _) ⟨_,e1⟩;refine I1.laid (a:=s.heap.objs.size+1) (o:=.ins C s.heap.objs.size []) (t':=s.toks) (λb u q=>AQ _ q) (KJ (Dp _ _)) ?_;have ne:s.heap.objs.size≠s.heap.objs.size+1:=BE (Cy _);refine⟨by rw[e8 ne,n0],Ao _,ne,e2,λ_=>AC,(Heap.Ns1.of_empty e3).at λo q=>AQ _ q,λ_=>CS,λy hy=>absurd rfl hy⟩
def bs1{prog:Ah}{w:Aq}{env:Env}{e:AR}{pos:Pos}(hb:DL e f env (eval e env)=eval e env)
  (h:AV (model prog w) A (eval e env) (λo s₁=>AV (model prog w) A (getAttr o f AB) Q E s₁) E s):AV (model prog w) A (eval (.Attribute e f pos) env) Q E s:=
 Attribute_any_ h (by rw[arm_eval_Attribute,hb])
end
abbrev cw3(K:AN)(ta:TE)(f:Str):TE:=λσ H Q=>ta σ H λx H1=>∃a C dx fs v,x=.ref a/\H1 a=AA (.ins C dx fs)/\Cls K C/\x9 K C f/\fs.lookup f=AA v/\Q v H1
abbrev cu8(K:AN)(ta tv:TE)(f:Str):TS:=λD σ H=>tv σ H λy H1=>ta σ H1 λx H2=>∃a C dx fs,x=.ref a/\H2 a=AA (.ins C dx fs)/\Cls K C/\x9 K C f/\fs.length<1000 /\
 D.nx σ (upd H2 a (.ins C dx (p7 f y fs)))
section
variable {o e value:AR} {pos pos' tpos:Pos} {ta tv:TE}
def b53(he:PE X e ta)(hb:DL e f X.env (eval e X.env)=eval e X.env):PE X (.Attribute e f pos) (cw3 X.K ta f):=by
 intro pins s σ H Q I h;refine bs1 hb (thn (he pins s σ H _ I h) λu s1 z20=>?_);obtain⟨x,H1,I1,rx,a,C,dx,fs,v,ex,ea,c,n,l,q⟩:=z20;subst ex;obtain rfl:u=Az a:=rx;exact bf4 I1 ea c n l λu' s2 I2 ru=>⟨v,H1,I2,ru,q⟩
def b77(ha:PE X o ta)(hv:PE X value tv)(hs:Ci value (AA (.Attribute o f pos')) pos.line X.env=pure AH):PS X (.Assign [.Attribute o f pos'] value pos) (cu8 X.K ta tv f):=by
 intro pins s σ H D I h;refine plainObj_wpAny_Assign_Attribute (thn (hv pins s σ H _ I h) λu s1⟨y,H1,I1,ry,q⟩=>thn (ha pins s1 σ H1 _ I1 q) λov s2 z21=>?_) hs;obtain⟨x,H2,I2,rx,a,C,dx,fs,ex,ea,c,n,l,q2⟩:=z21;subst ex;obtain rfl:ov=Az a:=rx;exact be1 I2 ea c n l ry λs3 I3=>⟨σ,_,I3,q2⟩
end
section
variable {pins:List (AI×Obj)} {σ:St} {E:AG->AL->Prop} {c:AG} {b:Bool}
inductive TyOf(K:AN)(H:Hp):V->AG->Prop where
 |non:TyOf K H .non (.type "NoneType")
 |bl (x:Bool):TyOf K H (.bl x) (.type "bool")
 |int (i:Int):TyOf K H (.int i) (.type "int")
 |str (x:Str):TyOf K H (.str x) (.type "str")
 |flt (x:UInt64):TyOf K H (.flt x) (.type "float")
 |lst {a:AI} {xs:List V} (e:H a=AA (.lst xs)):TyOf K H (.ref a) (.type "list")
 |frz {a:AI} {o:Obj} {xs:List V} (e:H a=AA (.frz o (.lst xs))):TyOf K H (.ref a) (.type "list")
 |tup {a:AI} {xs:List V} (e:H a=AA (.tup xs)):TyOf K H (.ref a) (.type "tuple")
 |dK {a:AI} {kvs:List (Key×V)} (e:H a=AA (.dK kvs)):TyOf K H (.ref a) (.type "dict")
 |dT {a:AI} {kvs:List (Ap×V)} (e:H a=AA (.dT kvs)):TyOf K H (.ref a) (.type "dict")
 |ins {a C dx:AI} {fs:List (Str×V)} (e:H a=AA (.ins C dx fs)) (cl:Cls K C) (ha:BL K (.ref C) "__class__"=AA (AA (.builtin "object.__class__")))
   (hn:W.specialIn K (.builtin "object.__class__") "__get__"=AA (AA (.builtin "getset_descriptor.__get__"))) (htk:W.takesIn K (.builtin "object.__class__")=AA AB)
   (hm:W.mroIn K C (.type "object")=AA AB):TyOf K H (.ref a) (.ref C)
def bj8{x}{t}(I:Inv X pins σ H s)(rx:c8 x u)(ty:TyOf X.K H x t)(e:Dq X.K t c=AA b)(h:∀tk,Q (.bool b) {s with toks:=tk}):
  AV (model X.prog X.w) A (call (.builtin "isinstance") [u,c]) Q E s:=by
 cases ty with
 |non=>cases(show u=Bh from rx);exact Cd W.kitx_none I.kIn CS e (λz=>nomatch z) h
 |bl y=>cases(show u=FS y from rx);exact Cd W.kitx_bool I.kIn CS e (λz=>nomatch z) h
 |int i=>obtain⟨t,q⟩:=(show ∃t,u=Da i t from rx);cases q;exact Cd W.kitx_int I.kIn CS e (λz=>nomatch z) h
 |str y=>obtain⟨t,q⟩:=(show ∃t,u=EY y t from rx);cases q;exact Cd W.kitx_str I.kIn CS e (λz=>nomatch z) h
 |flt y=>obtain⟨t,q⟩:=(show ∃t,u=He y t from rx);cases q;exact Cd W.kitx_float I.kIn CS e (λz=>nomatch z) h
 |@lst a xs ea=>
  cases(show u=Az a from rx);obtain⟨_,_,n,_,h1⟩:=(show i7 X.prog X.w H s.heap a (.lst xs) from I.hok a _ ea);exact Cd W.kitx_list I.kIn ⟨_,h1,rfl⟩ e (λz=>nomatch z) h
 |@frz a ob xs ea=>
  cases(show u=Az a from rx);obtain⟨_,_,_,n,_,h1⟩:=(show i7 X.prog X.w H s.heap a (.frz ob (.lst xs)) from I.hok a _ ea);exact Cd W.kitx_list I.kIn ⟨_,h1,rfl⟩ e (λz=>nomatch z) h
 |@tup a xs ea=>
  cases(show u=Az a from rx);obtain⟨_,_,_,p⟩:=(show i7 X.prog X.w H s.heap a (.tup xs) from I.hok a _ ea);obtain⟨o,h1,h2,_⟩:=p;exact Cd Km I.kIn ⟨o,h1,h2⟩ e (λz=>nomatch z) h
 |@dK a kvs ea=>
  cases(show u=Az a from rx);obtain⟨_,_,vs,_,p⟩:=(show i7 X.prog X.w H s.heap a (.dK kvs) from I.hok a _ ea);obtain⟨o,es,ep,h1,h2,_⟩:=p;exact Cd W.kitx_dict I.kIn ⟨o,h1,h2.1⟩ e (λz=>nomatch z) h
 |@dT a kvs ea=>
  cases(show u=Az a from rx);obtain⟨_,_,xs,_,o,es,ep,h1,h2,_⟩:=(show i7 X.prog X.w H s.heap a (.dT kvs) from I.hok a _ ea);exact Cd W.kitx_dict I.kIn ⟨o,h1,h2.1⟩ e (λz=>nomatch z) h
 |@ins a C dx fs ea cl ha hn htk hm=>
  cases(show u=Az a from rx);obtain⟨mA,O,_⟩:=V7 I.hok ea;obtain⟨od,J,_⟩:=O.look;exact Cd (W.kitx_own (cl.get _) cl.hd ha hn htk hm) I.kIn J e (λz=>nomatch z) h
end
end L2
namespace L2
open PySem PySem.Spec PyProof.Rows
variable{A:BP}{C:AI}{us:List AG}{X:Cx}{s:AL}{H:Hp}{pins:List (AI×Obj)}{σ:St}{Q:VK}{ps:List Str}{x:Str}{vs:List V}{kindOf:Str->Option Fj}
structure Room(k:Nat)(A:BP):Prop where
 hd:A.handled=AC
 dp:A.depth+k+5<Hj
 un:A.units+4*k+2200<Cm
theorem Room.deeper{k:Nat}(r:Room (k+1) A)(env:Env):Room k (A.deeper env):=
 ⟨r.hd,by have:=r.dp;show A.depth+1+k+5<_;lia,by have:=r.un;show A.units+3+4*k+2200<_;lia⟩
def bg2{kw}:(A.under (.builtin "type.__call__" ⟨.ref C::us,kw⟩)).depth=A.depth+1:=rfl
def be5{kw}:(A.under (.builtin "type.__call__" ⟨.ref C::us,kw⟩)).units=A.units+1:=rfl
def Room.make{k:Nat}(r:Room (k+1) A)(C:AI)(us:List AG)(kw:List (Str×AG)):Room k (A.under (.builtin "type.__call__" ⟨.ref C::us,kw⟩)):=
 ⟨r.hd,by have:=r.dp;rw[bg2];lia,by have:=r.un;rw[be5];lia⟩
theorem Room.depth{k}(r:Room k A):A.depth<Hj:=by have:=r.dp;lia
abbrev ak9:TA:=λ_ H Q=>Q [] H
abbrev ai2(ta:TE)(tr:TA):TA:=λσ H Q=>ta σ H λx H1=>tr σ H1 λxs H2=>Q (x::xs) H2
section
variable {e:AR} {es:List AR} {te:TE} {t:TA} {pos:Pos}
def az9:PA X [] ak9:=λ_ _ _ _ H Q I h=>EK ⟨[],H,I,.nil,h⟩
def af4(ha:PE X e te)(hr:PA X es t)(hs:Am (e::es) X.env=(AH,eval e X.env)::Am es X.env:=by rfl):PA X (e::es) (ai2 te t):=by
 intro pos pins s σ H Q I h;rw[hs];show AV _ _ (spliced ((AH,eval e X.env)::CU pos (Am es X.env))) _ _ s;refine Cz (thn (ha pins s σ H _ I h) λu s1 z22=>?_);obtain⟨x,H1,I1,r1,q1⟩:=z22;exact thn (hr pos pins s1 σ H1 _ I1 q1) λus s2⟨xs,H2,I2,r2,q2⟩=>⟨x::xs,H2,I2,.cons r1 r2,q2⟩
abbrev cx6(t:TA):TE:=λσ H Q=>t σ H λxs H1=>xs.length<=sizeLine/\∀p,H1 p=AC->Q (.ref p) (upd H1 p (.tup xs))
abbrev cz7(t:TA):TE:=λσ H Q=>t σ H λxs H1=>xs.length<=sizeLine/\∀p,H1 p=AC->Q (.ref p) (upd H1 p (.lst xs))
def cb2{x1}(h:PA X es t):PE X (.Tuple es x1 pos) (cx6 t):=by
 intro pins s σ H Q I hq;refine wpAny_Tuple_spliced (thn (h pos pins s σ H _ I hq) λus s1⟨xs,H1,I1,r,z,q⟩=>⟨r.length▸z,?_⟩);have hf:=I1.hok.fresh (AW _);exact ⟨.ref s1.heap.objs.size,upd H1 s1.heap.objs.size (.tup xs),I1.laid (λb u=>AQ _) (AW _) ⟨z,us,r,v3.new _ _⟩,rfl,q _ hf⟩
def cf8(h:PA X es t):PE X (.List es pos) (cz7 t):=by
 intro pins s σ H Q I hq;refine wpAny_List_spliced (thn (h pos pins s σ H _ I hq) λus s1⟨xs,H1,I1,r,z,q⟩=>⟨r.length▸z,?_⟩);have hf:=I1.hok.fresh (AW _);refine⟨.ref s1.heap.objs.size,upd H1 s1.heap.objs.size (.lst xs),I1.laid (λb u=>AQ _) (AW _) ?_,rfl,q _ hf⟩;exact⟨z,us,0,r,Ai _ rfl⟩
end
@[reducible]noncomputable def Sp:=List V->Hp->VK->XK->Prop
@[reducible]noncomputable def CXT:=List Env->Hp->AL->XK->AG->AL->Prop
structure Env0(P:Ah)(w:Aq)(K:AN)(mg:Str->Option AG)(base:Heap)(A:BP)(outer:List Env)(s:AL)(H:Hp):Prop where
 frames:A.frames=AA outer
 mod:Mod K mg base
 bs:∀b o,base.get? b=AA o->s.heap.get? b=AA o/\H b=AC
 bsz:base.objs.size<=s.heap.objs.size
 funs:s.heap.FunFrames base outer
 frf:∀b∈frs outer,H b=AC
 hok:HOk P w H s.heap
 bare:Ge s.gens
abbrev CE(outer:List Env)(P:Ah)(w:Aq)(H:Hp)(s:AL)(Q:VK)(u:AG)(s':AL):Prop:=
 ∃v H',s'.os=s.os/\Ge s'.gens/\Un (frs outer) [] H H' s.heap s'.heap/\HOk P w H' s'.heap/\c8 v u/\Q v H'
abbrev CR(CX:CXT)(outer:List Env)(P:Ah)(w:Aq)(H:Hp)(s:AL)(Q:VK)(E:XK)(r:Ia)(s':AL):Prop:=
 match r with
 |.ok (.ret u)=>CE outer P w H s Q u s'
 |.ok _=>False
 |.error e=>CX outer H s E e s'
structure FnOk(P:Ah)(w:Aq)(K:AN)(mg:Str->Option AG)(base:Heap)(CX:CXT)(k:Nat)(f:AI)(fd:Bi)(ps:List Str)(sp:Sp):Prop where
 len:∀vs H Q E,sp vs H Q E->vs.length=ps.length
 run:∀(A:BP)(outer:List Env)(s:AL)(H:Hp)(args:Args)(us:List AG)(vs:List V)(Q:VK)(E:XK),Room k A->Env0 P w K mg base A outer s H->Ib s fd args (ps.zip us)->c0 vs us->sp vs H Q E ->
  Dw (model P w) A (.call (.ref f) args) (CR CX outer P w H s Q E) s
def Env0.make{P:Ah}{w:Aq}{K:AN}{mg:Str->Option AG}{base:Heap}{outer:List Env}(e:Env0 P w K mg base A outer s H)(C:AI)(us:List AG)(kw:List (Str×AG)):
  Env0 P w K mg base (A.under (.builtin "type.__call__" ⟨.ref C::us,kw⟩)) outer s H:=⟨by first|exact e.frames|(simpa[HJ,Code.envs,HU,pushEnvs]using e.frames),e.mod,e.bs,e.bsz,e.funs,e.frf,e.hok,e.bare⟩
section
variable {s':AL}
def Inv.env0(I:Inv X pins σ H s):Env0 X.prog X.w X.K X.mg X.base X.A X.stack s H:=
 ⟨I.ok.frames,I.ok.mod,I.bs,Ay I.ok.bsz I.sz,I.stack,I.stkFree,I.hok,I.bare⟩
def Inv.after{u}(I:Inv X pins σ H s)(h:CE X.stack X.prog X.w H s Q u s'):EP X pins σ Q u s':=by
 obtain⟨v,H',os,bare,un,hok,r,q⟩:=h;obtain⟨hh,g,d,t,os'⟩:=s';obtain rfl:os'=s.os:=os;exact⟨v,H',I.call un hok bare λb z=>absurd z ∎,r,q⟩
end
abbrev cm8(sp:Sp)(dvs:List V)(E:XK)(t:TA):TE:=λσ H Q=>t σ H λvs H1=>sp (vs++dvs) H1 Q E
abbrev a85(C:AI)(sp:Sp)(dvs:List V)(E:XK)(t:TA):TE:=λσ H Q=>t σ H λvs H1=>∀x dx,H1 x=AC->H1 dx=AC->dx≠x ->
 sp (.ref x::(vs++dvs)) (upd (upd H1 dx (.own x)) x (.ins C dx [])) (λv H2=>v=.non/\Q (.ref x) H2) E
abbrev l0(K:AN)(fd:Bi)(ps:List Str)(ds:List AG):Prop:=
 ∀(s:AL)(us:List AG),K.In s.heap->(us++ds).length=ps.length->Ib s fd ⟨us,[]⟩ (ps.zip (us++ds))
def l0.all{K:AN}{fd:Bi}(h:∀us:List AG,us.length=ps.length->EZ fd ⟨us,[]⟩=pure (ps.zip us)):l0 K fd ps []:=λs us _ hl=>by
 rw[Be]at hl ⊢;exact .of_eq (h us hl)
abbrev M6(CX:CXT)(X:Cx)(E:XK):Prop:=∀(pins:List (AI×Obj))(σ:St)(H:Hp)(s:AL)(e:AG)(s':AL),Inv X pins σ H s->CX X.stack H s E e s'->X.xe e s'
section
variable {CX:CXT} {k:Nat} {f:AI} {fd:Bi} {sp:Sp} {dvs:List V} {ds:List AG} {E:XK} {m:Str} {p pos apos:Pos} {e o:AR} {es:List AR} {ta:TE} {t:TA}
def Q7(F:FnOk X.prog X.w X.K X.mg X.base CX k f fd ps sp)(hr:Room k X.A)(hb:l0 X.K fd ps ds)(hd:c0 dvs ds)(hx:M6 CX X E)
  (I:Inv X pins σ H s) (r:c0 vs us) (h:sp (vs++dvs) H Q E):AV (model X.prog X.w) X.A (call (.ref f) us) (EP X pins σ Q) X.xe s:=by
 have r2:=r.append hd;have hl:(us++ds).length=ps.length:=(r2.length▸F.len _ _ _ _ h)
 refine JZ (Dd (F.run X.A X.stack s H ⟨us,[]⟩ (us++ds) (vs++dvs) Q E hr I.env0 (hb s us I.kIn hl) r2 h) λr s' hq=>?_);cases r with
 |error e=>exact hx pins σ H s e s' I hq
 |ok fl=>
  cases fl with
  |ret u=>exact I.after hq
  |next=>exact AT hq
  |brk=>exact AT hq
  |cont=>exact AT hq
def aw8(F:FnOk X.prog X.w X.K X.mg X.base CX k f fd ps sp)(hr:Room k X.A)(hg:Gl X x)(hm:X.mg x=AA (.ref f))(hk:Bo X.K (.ref f)=AB)(hb:l0 X.K fd ps ds)(hd:c0 dvs ds)(hx:M6 CX X E)
  (ha:PA X (e::es) t) (hdb:(x==("__debug__":Str))=AH:=by decide) (he:Am (e::es) X.env=(AH,eval e X.env)::Am es X.env:=by rfl) (hpl:(CU pos (Am es X.env)).any (·.1)=AH:=by rfl) :
  PE X (.Call (.Name x p) (e::es) [] pos) (cm8 sp dvs E t):=by
 intro pins s σ H Q I h;refine CD (L3 I hg hm ?_ hdb);refine GT (h₀:=X.base) I.ok.mod.kin hk (thn (ha pos pins s σ H _ I h) λus s1⟨vs,H1,I1,r,q⟩=>⟨I1.kIn,?_⟩) he hpl;exact Q7 F hr hb hd hx I1 r q
structure Mk(K:AN)(C f:AI):Prop where
 makes:IB K C=AB
 init:BL K (.ref C) "__init__"=AA (AA (.ref f))
 fn:KH K (.ref f)=AB
 kp:Bo K (.ref C)=AB
def ar9(M:Mk X.K C f)(F:FnOk X.prog X.w X.K X.mg X.base CX k f fd ps sp)(hr:Room (k+1) X.A)(hb:l0 X.K fd ps ds)(hd:c0 dvs ds)
  (hx:M6 CX X E) (I:Inv X pins σ H s) (r:c0 vs us)
  (h:∀x dx,H x=AC->H dx=AC->dx≠x->sp (.ref x::(vs++dvs)) (upd (upd H dx (.own x)) x (.ins C dx [])) (λv H2=>v=.non/\Q (.ref x) H2) E) :
  AV (model X.prog X.w) X.A (call (.ref C) us) (EP X pins σ Q) X.xe s:=by
 have hq:=h (s.heap.objs.size+1) s.heap.objs.size (I.hok.fresh (Ic _)) (I.hok.fresh (AW _)) (BE (Cy _));have I2:=Inv.made (C:=C) I;have r2:c0 (V.ref (s.heap.objs.size+1)::(vs++dvs)) (Az (s.heap.objs.size+1)::(us++ds)):=.cons rfl (r.append hd);have hl:=by
  have e:=r2.length;rw[F.len _ _ _ _ hq]at e;exact e.symm
 refine JZ (bm6 I.kIn M.makes M.init (beq_iff_eq.mp M.fn) (Dd (F.run _ X.stack _ _ ⟨Az (s.heap.objs.size+1)::us,[]⟩ (Az (s.heap.objs.size+1)::(us++ds)) _ _ E (hr.make C us [])
  (I2.env0.make C us []) (hb _ (Az (s.heap.objs.size+1)::us) I2.kIn hl) r2 hq) λr s' hq'=>?_))
 cases r with
 |error e=>exact hx pins σ _ _ e s' I2 hq'
 |ok fl=>
  cases fl with
  |ret u=>
   obtain⟨v,H',I3,rv,ev,q3⟩:=I2.after hq';subst ev;exact⟨rv,⟨V.ref (s.heap.objs.size+1),H',I3,rfl,q3⟩⟩
  |next=>exact AT hq'
  |brk=>exact AT hq'
  |cont=>exact AT hq'
def b03(M:Mk X.K C f)(F:FnOk X.prog X.w X.K X.mg X.base CX k f fd ps sp)(hr:Room (k+1) X.A)(hg:Gl X x)(hm:X.mg x=AA (.ref C))(hb:l0 X.K fd ps ds)(hd:c0 dvs ds)(hx:M6 CX X E)
  (ha:PA X (e::es) t) (hdb:(x==("__debug__":Str))=AH:=by decide) (he:Am (e::es) X.env=(AH,eval e X.env)::Am es X.env:=by rfl) (hpl:(CU pos (Am es X.env)).any (·.1)=AH:=by rfl) :
  PE X (.Call (.Name x p) (e::es) [] pos) (a85 C sp dvs E t):=by
 intro pins s σ H Q I h;refine CD (L3 I hg hm ?_ hdb);refine GT (h₀:=X.base) I.ok.mod.kin M.kp (thn (ha pos pins s σ H _ I h) λus s1⟨vs,H1,I1,r,q⟩=>⟨I1.kIn,?_⟩) he hpl;exact ar9 M F hr hb hd hx I1 r q
def bo2(M:Mk X.K C f)(F:FnOk X.prog X.w X.K X.mg X.base CX k f fd ps sp)(hr:Room (k+1) X.A)(hg:Gl X x)(hm:X.mg x=AA (.ref C))(hb:l0 X.K fd ps ds)(hd:c0 dvs ds)(hx:M6 CX X E)
  (hdb:(x==("__debug__":Str))=AH:=by decide):PE X (.Call (.Name x p) [] [] pos) (a85 C sp dvs E ak9):=by
 intro pins s σ H Q I h;refine CD (L3 I hg hm ?_ hdb);exact KY I.kIn M.kp (ar9 (us:=[]) M F hr hb hd hx I .nil h)
end
structure FnScope(N P:List Str)(sc:BB):Prop where
 kind:sc.kind=.function
 co:sc.isCoroutine=AH
 gen:sc.isGenerator=AH
 nd:N.Nodup
 pre:N.take P.length=P
 par:∀x∈P,sc.names.lookup x=AA .local\/sc.names.lookup x=AA .cell
 nofree:∀y∈sc.names,y.2≠.free
theorem ao4:∀{binds}{m},(∀v,(x,v)∉binds)->IQ kindOf binds m x=m x
 |[],_,_=>rfl
 |(n,v)::r,m,h=>by
  unfold IQ;rw[ao4 λw hw=>h w (BA _ hw)]
  split
  ·have:x≠n:=by rintro rfl;exact h v Bl
   simp[this]
  ·rfl
theorem ap5:∀{binds}{m},(∀v,(x,v)∉binds)->IR kindOf binds m x=m x
 |[],_,_=>rfl
 |(n,v)::r,m,h=>by
  unfold IR;rw[ap5 λw hw=>h w (BA _ hw)]
  split
  ·rfl
  ·have:x≠n:=by rintro rfl;exact h v Bl
   simp[this]
theorem an9{v}:∀{P:List Str}{vs}{i:Nat}{m},P.Nodup->P[i]?=AA x->vs[i]?=AA v->kindOf x=AA .local ->
  IQ kindOf (P.zip vs) m x=AA v
 |[],_,_,_,_,h,_,_=>by simp at h
 |_::_,[],_,_,_,_,h,_=>by simp at h
 |p::P,w::vs,0,m,nd,h1,h2,hk=>by
  simp at h1 h2;subst h1;subst h2;show IQ kindOf ((p,w)::P.zip vs) m p=_;unfold IQ;rw[ao4 λv hv=>(Cs.mp nd).1 (GU hv).1,if_pos hk];simp
 |p::P,w::vs,i+1,m,nd,h1,h2,hk=>by
  unfold IQ;exact an9 (Cs.mp nd).2 (by simpa using h1) (by simpa using h2) hk
theorem ao3{v}:∀{P:List Str}{vs}{i:Nat}{m},P.Nodup->P[i]?=AA x->vs[i]?=AA v->kindOf x≠AA .local ->
  IR kindOf (P.zip vs) m x=AA v
 |[],_,_,_,_,h,_,_=>by simp at h
 |_::_,[],_,_,_,_,h,_=>by simp at h
 |p::P,w::vs,0,m,nd,h1,h2,hk=>by
  simp at h1 h2;subst h1;subst h2;show IR kindOf ((p,w)::P.zip vs) m p=_;unfold IR;rw[ap5 λv hv=>(Cs.mp nd).1 (GU hv).1,if_neg hk];simp
 |p::P,w::vs,i+1,m,nd,h1,h2,hk=>by
  unfold IR;exact ao3 (Cs.mp nd).2 (by simpa using h1) (by simpa using h2) hk
abbrev r8(N:List Str)(vs:List V):St:=vs.map AA++AY (N.length-vs.length) AC
abbrev Z4(CX:CXT)(P:Ah)(w:Aq)(K:AN)(mg:Str->Option AG)(base:Heap)(N:List Str)(qual:Str)(scope:BB)(f:AI)(cd:AG)(A:BP)(outer:List Env)(s:AL)(H:Hp)(E:XK):Cx where
 prog:=P
 w:=w
 K:=K
 mg:=mg
 base:=base
 A:=A.deeper (HC qual scope s.heap.objs.size f cd)
 N:=N
 s₀:=s
 H₀:=H
 env:=HC qual scope s.heap.objs.size f cd
 outer:=outer
 stack:=HC qual scope s.heap.objs.size f cd::outer
 ex:=[]
 calm:=AB
 fn:=λ_=>AB
 pn:=[]
 xe:=λe s'=>AV (model P w) (A.deeper (HC qual scope s.heap.objs.size f cd)) (leaving (HC qual scope s.heap.objs.size f cd) e) (λ_ s''=>CX outer H s E e s'') (λe' s''=>CX outer H s E e' s'') s'
def ap9{sc:BB}{n}(h:sc.names.lookup x=AA .cell):∃c,(KM n sc.names []).lookup x=AA c:=(have q:=Ja sc.names n [] (.inl h);BN.mp q)
def bh3{CX:CXT}{P:Ah}{w:Aq}{K:AN}{mg:Str->Option AG}{base:Heap}{N:List Str}{qual:Str}{scope:BB}{f:AI}{cd:AG}{outer:List Env}{s1:AL}{E:XK}
  (S:FnScope N ps scope) (hd:A.handled=AC) (e0:Env0 P w K mg base A outer s H) (hl:vs.length=ps.length) (r:c0 vs us)
  (x:InCallC s s.heap.objs.size (IQ (HC qual scope s.heap.objs.size f cd).kindOf (ps.zip us) λ_=>AC) (KM (s.heap.objs.size+1) scope.names []) (IR (HC qual scope s.heap.objs.size f cd).kindOf (ps.zip us) λ_=>AC) s1) :
  Inv (Z4 CX P w K mg base N qual scope f cd A outer s H E) [] (r8 N vs) H s1:=by
 have hpl:ps.length<=N.length:=by have:=congrArg Dl S.pre;rw[Bt]at this;lia
 obtain ⟨h1,tk,rfl,hk⟩:=x.done;have noA:∀ b:AI,b ∉ (Z4 CX P w K mg base N qual scope f cd A outer s H E).ex:=λb z=>absurd (show b ∈ ([]:List AI) from z) ∎;refine ⟨⟨e0.mod,S.kind,rfl,rfl,AW _,λy z c h1 h2=>?_,λy hy=>?_,λy c _ h=>?_,λ_=>hd,HV e0.frames,.inr ⟨rfl,rfl⟩,λb z=>absurd z (noA b),e0.bs,e0.bsz,λb _ _=>noA b,λb z=>absurd z (noA b),e0.funs,e0.frf⟩,
  rfl,e0.bare,Un.kept hk,⟨_,x.toInCall.ns,λi y v h1 h2 h3=>?_⟩,λy c h=>⟨_,x.cell y c h⟩,e0.hok.fresh (AW _),λy c h=>?_,λp hp=>absurd (show p ∈ ([]:List (AI × Obj)) from hp) ∎,e0.hok.kept hk,?_⟩
 ·exact name_of_addr x.apart (PySem.mem_of_lookup h1) (PySem.mem_of_lookup h2)
 ·have hy:scope.names.lookup y=AA .cell\/scope.names.lookup y=AA .free:=hy
  rcases hy with hy|hy
  ·exact ap9 hy
  ·exact absurd rfl (S.nofree _ (PySem.mem_of_lookup hy))
 ·exact DJ (x.above y c (PySem.mem_of_lookup h))
 ·have hi:i<vs.length:=by
   unfold r8 at h2
   by_cases hi:i<vs.length
   ·exact hi
   ·rw[Ad (by simpa using hi)]at h2;rw[DU]at h2
    split at h2<;>cases h2
  have ha:vs[i]?=AA v:=by
   unfold r8 at h2;rw[Aj (by simpa using hi),Aw]at h2;cases e:vs[i]? with
   |none=>rw[e]at h2;cases h2
   |some a=>rw[e]at h2;cases h2;rfl
  obtain⟨u,hu,rv⟩:=r.get ha;have hp:ps[i]?=AA y:=by
   rw[<-S.pre,HK ⋯];exact h1
  have ndP:ps.Nodup:=by rw[<-S.pre];exact S.nd.sublist (Fx _ _)
  refine⟨u,rv,?_⟩
  rcases S.par y (Cg hp)with k|k
  ·exact .inl ⟨k,an9 ndP hp hu k⟩
  ·obtain⟨c,e⟩:=ap9 (n:=s.heap.objs.size+1) k;refine .inr ⟨.inl k,c,e,?_⟩;have q:=x.cell y c e;rw[ao3 ndP hp hu (by show scope.names.lookup y≠_;rw[k];decide)]at q;exact q
 ·exact .inl (e0.hok.fresh (DJ (x.above y c (PySem.mem_of_lookup h))))
 ·unfold r8;show _=N.length;rw[AU,AX,DC];lia
end L2
namespace L2
open PySem PySem.Spec PyProof.Rows
section
variable {X:Cx} {x:Str} {p pos:Pos} {e:AR} {es:List AR} {t:TA} {id T:String} {r:List V->Hp->VK->Prop}
abbrev tCB(r:List V->Hp->VK->Prop)(t:TA):TE:=λσ H Q=>t σ H λvs H1=>r vs H1 Q
def ae2(hc:z7 X (.builtin id) r)(hg:Gl X x)(hm:X.mg x=AC)(hv:BK x=AA (.builtin id))(ha:PA X (e::es) t)(hn:x≠"__name__":=by decide)(hdb:(x==("__debug__":Str))=AH:=by decide)
  (he:Am (e::es) X.env=(AH,eval e X.env)::Am es X.env:=by rfl) (hpl:(CU pos (Am es X.env)).any (·.1)=AH:=by rfl):PE X (.Call (.Name x p) (e::es) [] pos) (tCB r t):=by
 intro pins s σ H Q I h;refine CD (A9 I hg hm hv ?_ hn hdb);exact FH (thn (ha pos pins s σ H _ I h) λus s1⟨vs,H1,I1,r1,q1⟩=>hc pins s1 σ H1 vs us Q I1 r1 q1) he hpl
def bg9(hc:z7 X (.type T) r)(hg:Gl X x)(hm:X.mg x=AC)(hv:BK x=AA (.type T))(ha:PA X (e::es) t)(hn:x≠"__name__":=by decide)(hdb:(x==("__debug__":Str))=AH:=by decide)
  (he:Am (e::es) X.env=(AH,eval e X.env)::Am es X.env:=by rfl) (hpl:(CU pos (Am es X.env)).any (·.1)=AH:=by rfl):PE X (.Call (.Name x p) (e::es) [] pos) (tCB r t):=by
 intro pins s σ H Q I h;refine CD (A9 I hg hm hv ?_ hn hdb);exact BY (thn (ha pos pins s σ H _ I h) λus s1⟨vs,H1,I1,r1,q1⟩=>hc pins s1 σ H1 vs us Q I1 r1 q1) he hpl
end
end L2
namespace HT
open PySem PyProof.Rows
section
open PySem.SeqAt
open PySem.AutoSeq1 (wpAny_loadPart')
open PySem.MeetsSeq PySem.MeetsSeq2 PySem.MeetsSeq3
end
section
variable {prog:Ah} {w:Aq} {A:BP} {E:AG->AL->Prop} {s:AL}
def cat_tup{t b}{vs ws}{Q}(ht:Kj s.heap t vs.toArray)(hb:Kj s.heap b ws.toArray)(hv:vs≠[])
  (h1:ws=[]->Q (.ref t) s) (h2:ws≠[]->Q (.ref s.heap.objs.size) {s with heap:=s.heap.push {cls:=.type "tuple",data:=.seq (vs++ws).toArray}})
  (hsz:vs.length+ws.length<=sizeLine):AV (model prog w) A (Cr .Add (.ref t) (.ref b)) Q E s:=by
 obtain⟨⟨cls,dd,data,sl⟩,ho,hc,n,hd⟩:=id ht;obtain⟨⟨cls2,dd2,data2,sl2⟩,ho2,hc2,n2,hd2⟩:=id hb;subst hc hd hc2 hd2;have e:vs.toArray++ws.toArray=(vs++ws).toArray:=by simp
 by_cases hw:ws=[]
 ·exact Ie ⟨_,ho,rfl⟩ ⟨_,ho2,rfl⟩ HD IJ PySem.F.slot_tuple_add PySem.F.entry_tuple_add (PySem.F.args_tuple_add_2 _ _)
   (tuple_addW1 t b vs.toArray ws.toArray n n2 dd dd2 sl sl2 (by simpa using hv) (by simp[hw])) ⟨ho,ho2,h1 hw⟩
 ·refine Ie ⟨_,ho,rfl⟩ ⟨_,ho2,rfl⟩ HD IJ PySem.F.slot_tuple_add PySem.F.entry_tuple_add (PySem.F.args_tuple_add_2 _ _)
   (tuple_addW2 t b vs.toArray ws.toArray n n2 dd dd2 sl sl2 (by simpa using hv) (by simp_all) (by exact hsz)) ⟨ho,ho2,?_⟩
  rw[e];exact h2 hw
abbrev sIx(n d:Nat):Option Int->Nat
 |none=>d
 |some v=>if v<0 then(v+(n:Int)).toNat else min v.toNat n
def cg1 n d(hd:d<=n)o:sIx n d o<=n:=by
 cases o with
 |none=>exact hd
 |some v=>
  show(if v<0 then(v+n).toNat else min v.toNat n)<=n
  by_cases hv:v<0
  ·rw[if_pos hv];lia
  ·rw[if_neg hv];exact Iz _ _
def ax3(v:Int)(n d:Nat):(if v<0 then max (v+n) 0 else min v n)=sIx n d (AA v):=by
 show(if v<0 then max (v+n) 0 else min v n)=if v<0 then(v+n).toNat else min v.toNat n
 ·grind
def be6(lo hi:Option Int)(n:Nat):De lo hi 1 (n:Int)=(((sIx n 0 lo:Nat):Int),((sIx n n hi:Nat):Int)):=by
 have h1:¬((1:Int)<0):=by lia
 unfold De;simp only[h1,if_false];refine IC ?_ ?_
 ·cases lo with
  |none=>rfl
  |some v=>exact ax3 v n 0
 ·cases hi with
  |none=>rfl
  |some v=>exact ax3 v n n
def be4(i j:Nat):CY i j 1=j-i:=by
 unfold CY;simp
 split<;>lia
def am8{v}{o}{Q}(p:HE v o)(h:Q o s):AV (model prog w) A (KN v) Q E s:=by
 cases p with
 |none=>exact Ko h
 |int i t=>exact slicePart_int h
def bb2{sl}{vl vu}{lo hi}{n:Nat}{Q}(hs:s.heap.IsSliceOf sl vl vu .none)(pl:HE vl lo)(pu:HE vu hi)
  (h:Q ((sIx n 0 lo),1,sIx n n hi-sIx n 0 lo) s):AV (model prog w) A (FT (.ref sl) (pure n)) Q E s:=by
 obtain⟨os,hos,hcs,hds⟩:=id hs;refine AD (AD (DX hos hds (x:=vl) rfl (AD (DX hos hds (x:=vu) rfl (AD (DX hos hds rfl (AJ ?_)))))));refine AD (Ko ?_);refine AD (am8 pl (AD (am8 pu (AD (AJ ?_)))));show AV _ _ (match De lo hi 1 n with|(lo,hi)=>pure (lo,(1:Int),CY lo hi 1)) _ _ s;rw[be6 lo hi n];show AV _ _ (pure ((sIx n 0 lo:Int),1,CY (sIx n 0 lo) (sIx n n hi) 1)) _ _ s;rw[be4];exact AJ h
def bm4(xs:Array AG)(i k:Nat):((BG k).filterMap λ(m:Nat)=>xs[((i:Int)+m*1).toNat]?).toArray=((xs.toList.drop i).take k).toArray:=by
 have e:(λ(m:Nat)=>xs[(i+(m:Int)*1).toNat]?)=λm=>xs[i+m]?:=by
  funext m
  have:((i:Int)+m*1).toNat=i+m:=by lia
  rw[this]
 rw[e];have:=pick_run xs i k;rw[List.filterMap_map]at this;have e2:((λx=>xs[x]?)∘λx=>i+x)=λm=>xs[i+m]?:=rfl;rw[e2]at this;rw[this]
def getItem_tuple_cut{t sl}{items}{vl vu}{lo hi}{Q}(ht:Kj s.heap t items)(hs:s.heap.IsSliceOf sl vl vu .none)(pl:HE vl lo)(pu:HE vu hi)
  (hw:¬(sIx items.size 0 lo=0/\sIx items.size items.size hi=items.size))
  (h:Q (.ref s.heap.objs.size) {s with heap:=s.heap.push {cls:=.type "tuple",data:=.seq ((items.toList.drop (sIx items.size 0 lo)).take (sIx items.size items.size hi-sIx items.size 0 lo)).toArray}})
  (hsz:items.size<=sizeLine):AV (model prog w) A (Ep (.ref t) (.ref sl)) Q E s:=by
 have htake:=by
  show((items.toList.drop (sIx items.size 0 lo)).take (sIx items.size items.size hi-sIx items.size 0 lo)).toArray.size<=sizeLine;rw[Aa,Bt,CB,BO];lia
 obtain⟨os,hos,hcs,hds⟩:=id hs;have hTs:s.TypeIs (.ref sl) "slice":=⟨os,hos,hcs⟩;unfold Ep
 try with_reducible refine CA ?_
 refine AD (Jo ht.typeIs ∅ ?_);refine AD (Bu ht.typeIs Cv
  (BX Cv ht.typeIs entry_tuple_getitem ?_ (args_tuple_getitem _ _)))
 show AV _ _ (FR (.ref t)>>=_) _ _ s;refine AD (tupleItemsOf_ ht ?_);refine AD (Ig hTs ?_);refine AD (bb2 hs pl pu ?_);have hno:¬((((sIx items.size 0 lo):Int)==0&&(1:Int)==1&&(sIx items.size items.size hi-sIx items.size 0 lo)==items.size)=AB):=by
  intro q;exact hw ⟨⋯,⋯⟩
 show AV _ _ (if((sIx items.size 0 lo:Int)==0&&1==1&&(sIx items.size items.size hi-sIx items.size 0 lo)==items.size)=AB then _ else _) _ _ s;rw[if_neg hno,bm4]
 first
  |exact AD (BM (AJ ⟨_,rfl,AJ h⟩) htake)
  |simp_all
  |nofun
  |grind
end
end HT
namespace L2
open PySem PySem.Spec PyProof.Rows
@[reducible]noncomputable def TO:=St->Hp->(Option Int->Hp->Prop)->Prop
abbrev PO(X:Cx)(e:Option AR)(t:TO):Prop:=
 ∀(pins:List (AI×Obj))(s:AL)(σ:St)(H:Hp)(Q:Option Int->Hp->Prop),Inv X pins σ H s->t σ H Q ->
  AV (model X.prog X.w) X.A (evalPart e X.env) (λu s'=>∃o H',Inv X pins σ H' s'/\HE u o/\Q o H') X.xe s
abbrev b19:TO:=λ_ H Q=>Q AC H
abbrev cn7(t:TE):TO:=λσ H Q=>t σ H λx H1=>∃i,x=.int i/\Q (AA i) H1
def bf9{ns}:∀{us},c0 (ns.map V.int) us->CL us ns:=by
 induction ns with
 |nil=>intro us r;cases r;exact .nil
 |cons n ns ih=>
  intro us r;cases r with
  |cons r1 r2=>
   obtain⟨t,e⟩:=r1;subst e;exact .cons n t (ih r2)
section
variable {X:Cx} {e:AR} {te:TE} {lo hi:Option AR} {tl th:TO} {pos p2:Pos}
def bx4:PO X AC b19:=by
 intro pins s σ H Q I h;exact AJ ⟨AC,H,I,.none,h⟩
def bu7(h:PE X e te):PO X (AA e) (cn7 te):=by
 intro pins s σ H Q I hw;refine thn (h pins s σ H _ I hw) λu s1 z23=>?_;obtain⟨x,H1,I1,r1,q1⟩:=z23;obtain⟨i,rfl,q⟩:=q1;obtain⟨t,rfl⟩:=r1;exact⟨AA i,H1,I1,.int i t,q⟩
abbrev SlR(X:Cx)(r:V->Option Int->Option Int->Hp->VK->Prop):Prop:=
 ∀(pins:List (AI×Obj))(s:AL)(σ:St)(H:Hp)(x:V)(v vl vu:AG)(lo hi:Option Int)(sl:AI)(Q:VK),Inv X pins σ H s->c8 x v->s.heap.IsSliceOf sl vl vu .none->HE vl lo->HE vu hi->r x lo hi H Q ->
  ∃T id,typeLookup (.type T) "__getitem__"=pure (AA (.builtin id))/\s.TypeIs v T/\AV (model X.prog X.w) X.A (Ep v (.ref sl)) (EP X pins σ Q) X.xe s
def SlR.or{r r'}(h:SlR X r)(h':SlR X r'):SlR X λx lo hi H Q=>r x lo hi H Q\/r' x lo hi H Q:=by
 intro pins s σ H x v vl vu lo hi sl Q I rx hs pl pu q
 rcases q with q|q
 ·exact h pins s σ H x v vl vu lo hi sl Q I rx hs pl pu q
 ·exact h' pins s σ H x v vl vu lo hi sl Q I rx hs pl pu q
abbrev tSl(r:V->Option Int->Option Int->Hp->VK->Prop)(te:TE)(tl th:TO):TE:=λσ H Q=>te σ H λx H1=>tl σ H1 λl H2=>th σ H2 λu H3=>r x l u H3 Q
def bm9{r:V->Option Int->Option Int->Hp->VK->Prop}(hr:SlR X r)(he:PE X e te)(hl:PO X lo tl)(hu:PO X hi th):PE X (.Subscript e (.Slice lo hi AC p2) pos) (tSl r te tl th):=by
 intro pins s σ H Q I h;refine Jb (thn (he pins s σ H _ I h) λv s1 z24=>?_);obtain⟨x,H1,I1,r1,q1⟩:=z24;refine wpAny_Slice (thn (hl pins s1 σ H1 _ I1 q1) λvl s2⟨l,H2,I2,pl,q2⟩=>thn (hu pins s2 σ H2 _ I2 q2) λvu s3 z25=>?_);obtain⟨u,H3,I3,pu,q3⟩:=z25;rw[evalPart_none];refine AJ ?_;have I4:Inv X pins σ H3 {s3 with heap:=s3.heap.push {cls:=.type "slice",data:=.fields #[vl,vu,.none]}}:=I3.kept (t':=s3.toks) λb ob q=>AQ _ q;obtain⟨T,id,hT,ht,hg⟩:=hr pins {s3 with heap:=s3.heap.push {cls:=.type "slice",data:=.fields #[vl,vu,.none]}} σ H3 x v vl vu l u s3.heap.objs.size Q I4 r1 (Heap.IsSliceOf.new ..) pl pu q3;show AV (model X.prog X.w) X.A (GQ e (.Slice lo hi AC p2) v (.ref s3.heap.objs.size)) (EP X pins σ Q) X.xe {s3 with heap:=s3.heap.push {cls:=.type "slice",data:=.fields #[vl,vu,.none]}};exact tail_any (ops:=[.ref s3.heap.objs.size,v]) ht hT hg (by with_unfolding_all rfl)
abbrev E3(xs:List V)(lo hi:Option Int):List V:=(xs.drop (HT.sIx xs.length 0 lo)).take (HT.sIx xs.length xs.length hi-HT.sIx xs.length 0 lo)
def am3(xs)lo hi:(E3 xs lo hi).length<=xs.length:=by
 unfold E3;rw[Bt,CB];lia
abbrev cv1(K:AN):V->Option Int->Option Int->Hp->VK->Prop:=λx lo hi H Q=>∃a xs,x=.ref a/\SqT K H a xs /\
 ¬(HT.sIx xs.length 0 lo=0/\HT.sIx xs.length xs.length hi=xs.length)/\∀p,H p=AC->Q (.ref p) (upd H p (.tup (E3 xs lo hi)))
def b25:SlR X (cv1 X.K):=by
 intro pins s σ H x v vl vu lo hi sl Q I rx hs pl pu h;obtain⟨a,xs,rfl,hx,hw,q⟩:=h;cases rx;obtain⟨its,r,ht,hz⟩:=I.tuple hx;have hlen:its.toArray.size=xs.length:=(r.length.symm)
 refine⟨"tuple",_,Cv.lookup,ht.typeIs,?_⟩;refine HT.getItem_tuple_cut ht hs pl pu (hlen▸hw) ?_ (hlen▸hz);rw[hlen];refine⟨.ref s.heap.objs.size,_,I.laid (λb ob=>AQ _) (AW _) ?_,rfl,q _ (I.hok.fresh (AW _))⟩;exact⟨Ay (am3 xs lo hi) hz,_,(r.drop (HT.sIx xs.length 0 lo)).take (HT.sIx xs.length xs.length hi-HT.sIx xs.length 0 lo),v3.new _ _⟩
abbrev ck5(K:AN):R2:=λx y H Q=>∃a b xs ys,x=.ref a/\y=.ref b/\SqT K H a xs/\SqT K H b ys/\xs≠[]/\xs.length+ys.length<=sizeLine /\
 (ys=[]->Q (.ref a) H)/\(ys≠[]->∀p,H p=AC->Q (.ref p) (upd H p (.tup (xs++ys))))
def c0.nil_iff{xs}{us}(r:c0 xs us):us=[]↔xs=[]:=by
 cases r with
 |nil=>simp
 |cons _ _=>simp
def br0:OpR X (Cr .Add) (ck5 X.K):=by
 intro pins s σ H x y v u Q I rx ry h;obtain⟨a,b,xs,ys,rfl,rfl,ha,hb,hx,hz,q1,q2⟩:=h;cases rx;cases ry;obtain⟨its,r1,p1,_⟩:=I.tuple ha;obtain⟨its2,r2,p2,_⟩:=I.tuple hb;refine HT.cat_tup p1 p2 (λz=>hx (r1.nil_iff.mp z)) (λz=>⟨.ref a,H,I,rfl,q1 (r2.nil_iff.mp z)⟩) (λz=>?_) (by rwa[<-r1.length,<-r2.length]);refine⟨.ref s.heap.objs.size,_,I.laid (λb ob=>AQ _) (AW _) ?_,rfl,q2 (λw=>z (r2.nil_iff.mpr w)) _ (I.hok.fresh (AW _))⟩;exact⟨by simp_all,_,r1.append r2,v3.new _ _⟩
end
variable{pins:List (AI×Obj)}{σ:St}{H:Hp}{s:AL}
abbrev ixN(n:Nat)(i:Int):Option Nat:=if 0<=i then(if i<n then AA i.toNat else AC)else if -(n:Int)<=i then AA (i+n).toNat else AC
abbrev atI{α:Type}(xs:List α)(i:Int):Option α:=(ixN xs.length i).bind λj=>xs[j]?
def ae8{n}{i}{j}(h:ixN n i=AA j):KQ i n=AA j/\j<n/\-(n:Int)<=i/\i<n:=by
 unfold ixN at h
 by_cases h0:0<=i
 ·rw[if_pos h0]at h
  by_cases h1:i<n
  ·rw[if_pos h1]at h;have e:i.toNat=j:=Ag h;exact⟨by rw[JA h0 h1,e],⋯,⋯,h1⟩
  ·simp_all
 ·rw[if_neg h0]at h
  by_cases h1:-(n:Int)<=i
  ·rw[if_pos h1]at h;have e:(i+n).toNat=j:=Ag h;exact⟨by rw[Ih ⋯ h1,e],⋯,h1,⋯⟩
  ·simp_all
def af6{α}{xs}{i}{v:α}(h:atI xs i=AA v):∃j,KQ i xs.length=AA j/\xs[j]?=AA v/\j<xs.length/\-xs.length<=i/\i<xs.length:=by
 unfold atI at h;cases e:ixN xs.length i with
 |none=>simp_all
 |some j=>
  rw[e]at h;obtain⟨h1,h2,h3,h4⟩:=ae8 e;exact⟨j,h1,h,h2,h3,h4⟩
abbrev ay1(b:AR):Prop:=∀o i,subscripted b AH o i=operate [o,i] (Ep o i)
abbrev IxR(X:Cx)(r:R2):Prop:=
 ∀(value slice:AR)(pins:List (AI×Obj))(s:AL)(σ:St)(H:Hp)(x y:V)(v u:AG)(Q:VK),Inv X pins σ H s->c8 x v->c8 y u->r x y H Q ->
  subscripted slice AH v u=operate [v,u] (Ep v u)->AV (model X.prog X.w) X.A (GQ value slice v u) (EP X pins σ Q) X.xe s
abbrev MtR(X:Cx)(id:String)(r:V->List V->Hp->VK->Prop):Prop:=
 ∀(pins:List (AI×Obj))(s:AL)(σ:St)(H:Hp)(x:V)(xs:List V)(v:AG)(us:List AG)(Q:VK),Inv X pins σ H s->c8 x v->c0 xs us->r x xs H Q ->
  AV (model X.prog X.w) X.A (call (.builtin id) (v::us)) (EP X pins σ Q) X.xe s
section
variable {X:Cx} {a b:AR} {ta tb:TE} {pos:Pos}
def IxR.or{r r'}(h:IxR X r)(h':IxR X r'):IxR X λx y H Q=>r x y H Q\/r' x y H Q:=by
 intro value slice pins s σ H x y v u Q I rx ry q hs
 rcases q with q|q
 ·exact h value slice pins s σ H x y v u Q I rx ry q hs
 ·exact h' value slice pins s σ H x y v u Q I rx ry q hs
def ch4{r}(hr:IxR X r)(ha:PE X a ta)(hb:PE X b tb)(hs:ay1 b):PE X (.Subscript a b pos) (tOp r ta tb):=λpins s σ H Q I h=>Jb (al0 ha hb I h λv u s2 x y H2 I2 rx ry q=>hr a b pins s2 σ H2 x y v u Q I2 rx ry q (hs _ _))
abbrev ct0(K:AN):R2:=λx y H Q=>∃p xs i v,x=.ref p/\y=.int i/\SqL K H p xs/\atI xs i=AA v/\Q v H
abbrev cz6(K:AN):R2:=λx y H Q=>∃p xs i v,x=.ref p/\y=.int i/\SqT K H p xs/\atI xs i=AA v/\Q v H
abbrev cv2:R2:=λx y H Q=>∃z i c,x=.str z/\y=.int i/\z.length<=sizeLine/\atI z.cps.toList i=AA c/\Q (.str ⟨#[c]⟩) H
def br2:IxR X (ct0 X.K):=by
 intro value slice pins s σ H x y v u Q I rx ry h hs;obtain⟨p,xs,i,z,rfl,rfl,hq,he,q⟩:=h;cases rx;obtain⟨t,rfl⟩:=ry;obtain⟨its,r,pl,hz⟩:=I.list hq;obtain⟨j,h1,h2,h3,h4,h5⟩:=af6 he;obtain⟨w,ew,rw'⟩:=r.get h2;have hl:=r.length;have hn:=Q0;have fin:EP X pins σ Q w s:=⟨z,H,I,rw',q⟩
 by_cases h0:0<=i
 ·have hj:i.toNat=j:=by
   rw[JA h0 h5]at h1;exact Ag h1
  exact item_listR pl.isList h0 ⋯ (by rw[hj];simpa using ew) fin hs
 ·have hj:(i+(its.toArray.size:Int)).toNat=j:=by
   rw[Ih ⋯ h4]at h1;rw[Aa,<-hl];exact Ag h1
  exact Ii (x:=w) pl.isList.typeIs Jp.lookup
   (wpAny_getItem_list_neg (Q:=λr s'=>r=w/\EP X pins σ Q r s') pl.isList ⋯ (by rw[Aa]<;>lia) ⋯ (by rw[hj];simpa using ew) ⟨rfl,fin⟩) hs
def b52:IxR X (cz6 X.K):=by
 intro value slice pins s σ H x y v u Q I rx ry h hs;obtain⟨p,xs,i,z,rfl,rfl,hq,he,q⟩:=h;cases rx;obtain⟨t,rfl⟩:=ry;obtain⟨its,r,pl,hz⟩:=I.tuple hq;obtain⟨j,h1,h2,h3,h4,h5⟩:=af6 he;obtain⟨w,ew,rw'⟩:=r.get h2;have hl:=r.length;have hn:=Q0;have fin:EP X pins σ Q w s:=⟨z,H,I,rw',q⟩;exact Ii (x:=w) pl.typeIs slot_tuple_getitem.lookup
  (getItem_tuple (j:=j) (Q:=λr s'=>r=w/\EP X pins σ Q r s') pl ⋯ ⋯ (by rw[Aa,<-hl];exact h1) (by simpa using ew) ⟨rfl,fin⟩) hs
def b51:IxR X cv2:=by
 intro value slice pins s σ H x y v u Q I rx ry h hs;obtain⟨z,i,c,rfl,rfl,hz,he,q⟩:=h;obtain⟨t,rfl⟩:=rx;obtain⟨t',rfl⟩:=ry;obtain⟨j,h1,h2,h3,h4,h5⟩:=af6 he;have hl:z.cps.toList.length=z.length:=by simp[Str.length]
 rw[hl]at h1 h4 h5;have hn:=Q0;exact tail_any (typeIs_str s z t) slot_str_getitem.lookup (getItem_str (c:=c) (by
  have e1:AE (i < -(2^63:Int))=AH:=decide_eq_false ⋯;have e2:AE (i>=2^63)=AH:=decide_eq_false ⋯;rw[e1,e2,Bj]) (by rw[h1];simpa using h2) ⟨.str ⟨#[c]⟩,H,I.tok _,⟨_,rfl⟩,q⟩) hs
def be7(its:List AG)n j(u):Eu (·.setIfInBounds j u) {cls:=.type "list",data:=.seq its.toArray n}={cls:=.type "list",data:=.seq (its.set j u).toArray n}:=by
 simp[Eu]
theorem Inv.lst{p}{xs}(I:Inv X pins σ H s)(h:H p=AA (.lst xs)):
  ∃(its:List AG)(n:Nat),c0 xs its/\s.heap.get? p=AA {cls:=.type "list",data:=.seq its.toArray n}/\xs.length<=sizeLine:=by
 obtain⟨z,its,n,r,e⟩:=I.hok p _ h;exact⟨its,n,r,e,z⟩
def Inv.lstUpd{p:AI}{xs ys:List V}{its its':List AG}{n n':Nat}{f:Obj->Obj}(I:Inv X pins σ H s)(h:H p=AA (.lst xs))
  (ho:s.heap.get? p=AA {cls:=.type "list",data:=.seq its.toArray n}) (hf:f {cls:=.type "list",data:=.seq its.toArray n}={cls:=.type "list",data:=.seq its'.toArray n'}) (r:c0 ys its') (hz:ys.length<=sizeLine) (t:Nat) :
  Inv X pins σ (upd H p (.lst ys)) {s with heap:=s.heap.update p f,toks:=t}:=by
 have e:(s.heap.update p f).get? p=AA {cls:=.type "list",data:=.seq its'.toArray n'}:=by
  rw[Dr f ho (by rw[hf]<;>rfl),hf]
 refine I.write (x:=p) (e:=p) (by rw[h];trivial) (.inl rfl) (λb u hb q=>(Heap.get?_update_other _ _ (DF hb)).trans q) ⟨_,e⟩ ?_;exact⟨hz,its',n',r,e⟩
abbrev cl0:V->V->V->Hp->(Hp->Prop)->Prop:=λo i v H Q=>∃p xs k j,o=.ref p/\i=.int k/\H p=AA (.lst xs)/\ixN xs.length k=AA j/\Q (upd H p (.lst (xs.set j v)))
def bm8:a91 X cl0:=by
 intro pins s σ H o i v ov iv u Q I ro ri rv h;obtain⟨p,xs,k,j,rfl,rfl,hp,hj,q⟩:=h;cases ro;obtain⟨t,rfl⟩:=ri;obtain⟨its,n,r,ho,hz⟩:=I.lst hp;obtain⟨h1,h2,h3,h4⟩:=ae8 hj;have hl:=r.length;have hn:=Q0;have I':Inv X pins σ (upd H p (.lst (xs.set j v))) {s with heap:=s.heap.update p (Eu (·.setIfInBounds j u))}:=
  I.lstUpd hp ho (be7 its n j u) (r.set rv j) (by rw[List.length_set];exact hz) s.toks
 by_cases h0:0<=k
 ·have hk:k.toNat=j:=by
   rw[JA h0 h4]at h1;exact Ag h1
  exact W.ki_setAt ho h0 ⋯ (by rw[Aa,<-hl];exact h4) (by rw[hk];exact⟨_,I',q⟩)
 ·have hk:(k+(its.toArray.size:Int)).toNat=j:=by
   rw[Ih ⋯ h3]at h1;rw[Aa,<-hl];exact Ag h1
  exact W.ki_setBack ho ⋯ (by rw[Aa,<-hl];exact h3) ⋯ (by rw[hk];exact⟨_,I',q⟩)
def bc7(lo hi:Option Int)(n:Nat):(EB lo hi AC n).1=((HT.sIx n 0 lo:Nat):Int)/\(EB lo hi AC n).2.1=((HT.sIx n n hi:Nat):Int)/\(EB lo hi AC n).2.2=1:=by
 refine⟨?_,?_,rfl⟩
 ·cases lo with
  |none=>rfl
  |some i=>
   simp only[EB,HT.sIx,EQ,show(1:Int)>0 by decide,if_true]
   by_cases h:i<0
   ·simp only[h,if_true]<;>lia
   ·simp only[h,if_false]<;>lia
 ·cases hi with
  |none=>rfl
  |some i=>
   simp only[EB,HT.sIx,EQ,show(1:Int)>0 by decide,if_true]
   by_cases h:i<0
   ·simp only[h,if_true]<;>lia
   ·simp only[h,if_false]<;>lia
def bc0(its:List AG)lo hi:slicePick its.toArray lo hi AC=((its.drop (HT.sIx its.length 0 lo)).take (HT.sIx its.length its.length hi-HT.sIx its.length 0 lo)).toArray:=by
 obtain⟨h1,h2,h3⟩:=bc7 lo hi its.toArray.size;unfold slicePick;rw[h1,h2,h3];simp only[sliceRange_one,pick_run,Aa]
abbrev cy9(K:AN):V->Option Int->Option Int->Hp->VK->Prop:=λx lo hi H Q=>∃a xs,x=.ref a/\SqL K H a xs/\∀p,H p=AC->Q (.ref p) (upd H p (.lst (E3 xs lo hi)))
def bs7:SlR X (cy9 X.K):=by
 intro pins s σ H x v vl vu lo hi sl Q I rx hs pl pu h;obtain⟨a,xs,rfl,hx,q⟩:=h;cases rx;obtain⟨its,r,ht,hz⟩:=I.list hx;have hlen:=r.length;refine⟨"list",_,Jp.lookup,ht.isList.typeIs,?_⟩;refine wpAny_getItem_list_slice ht.isList hs pl pu .none ∎ ?_ (by rw[Aa]<;>lia);rw[bc0,<-hlen];refine⟨.ref s.heap.objs.size,_,I.laid (λb ob=>AQ _) (AW _) ?_,rfl,q _ (I.hok.fresh (AW _))⟩;exact⟨Ay (am3 xs lo hi) hz,_,0,(r.drop (HT.sIx xs.length 0 lo)).take (HT.sIx xs.length xs.length hi-HT.sIx xs.length 0 lo),Ai _ rfl⟩
def bc4:z7 X (.builtin "len") λxs H Q=>∃p ys,xs=[.ref p]/\(SqL X.K H p ys\/SqT X.K H p ys)/\Q (.int ys.length) H:=by
 intro pins s σ H xs us Q I r h;obtain⟨p,ys,rfl,hq,q⟩:=h;obtain⟨u,rfl,rx⟩:=S5 r;cases rx;have hn:=Q0
 rcases hq with hq|hq
 ·obtain⟨its,r',pl,hz⟩:=I.list hq;have hlen:=r'.length;exact Calls.call_len_list pl.isList (by grind) ⟨.int ys.length,H,I.tok _,⟨s.toks+1,by rw[Aa,hlen]⟩,q⟩
 ·obtain⟨its,r',pl,hz⟩:=I.tuple hq;have hlen:=r'.length;exact len_tuple pl (by grind) ⟨.int ys.length,H,I.tok _,⟨s.toks+1,by rw[Aa,hlen]⟩,q⟩
def bc1:z7 X (.type "list") λxs H Q=>∃p ys,xs=[.ref p]/\(SqL X.K H p ys\/SqT X.K H p ys)/\∀l,H l=AC->Q (.ref l) (upd H l (.lst ys)):=by
 intro pins s σ H xs us Q I r h;obtain⟨p,ys,rfl,hq,q⟩:=h;obtain⟨u,rfl,rx⟩:=S5 r;cases rx;have fin:∀its,c0 ys its->ys.length<=sizeLine->∀(h')c',(∀b o',s.heap.get? b=AA o'->h'.get? b=AA o') ->
   h'.get? s.heap.objs.size=AA {cls:=.type "list",dict:=AC,data:=.seq its.toArray c',slots:=#[]}->EP X pins σ Q (.ref s.heap.objs.size) {s with heap:=h'}:=λits r' hz h' c' kp e=>
  ⟨.ref s.heap.objs.size,_,I.laid kp (AW _) (show i7 X.prog X.w _ h' _ (.lst ys) from⟨hz,its,c',r',e⟩),rfl,q _ (I.hok.fresh (AW _))⟩
 rcases hq with hq|hq
 ·obtain⟨its,r',pl,hz⟩:=I.list hq;have hlen:=r'.length;obtain⟨o,ho,hc,n,hd⟩:=pl.isList;exact call_list_seq p (.inl rfl) ho hc hd (λh' c' kp=>fin its r' hz h' c' kp) (by simp_all)
 ·obtain⟨its,r',pl,hz⟩:=I.tuple hq;have hlen:=r'.length;obtain⟨o,ho,hc,n,hd⟩:=pl;exact call_list_seq p (.inr rfl) ho hc hd (λh' c' kp=>fin its r' hz h' c' kp) (by simp_all)
def bb8:z7 X (.type "tuple") λxs H Q=>∃p ys,xs=[.ref p]/\((SqL X.K H p ys/\∀l,H l=AC->Q (.ref l) (upd H l (.tup ys)))\/(SqT X.K H p ys/\Q (.ref p) H)):=by
 intro pins s σ H xs us Q I r h;obtain⟨p,ys,rfl,h⟩:=h;obtain⟨u,rfl,rx⟩:=S5 r;cases rx
 rcases h with⟨hq,q⟩|⟨hq,q⟩
 ·obtain⟨its,r',pl,hz⟩:=I.list hq;have hlen:=r'.length;refine call_tuple_list pl.isList (λh' kp=>?_) (by simp_all);have I1:=I.kept (t':=s.toks) kp;have I2:=
   I1.laid (t':=s.toks) (λb o=>AQ _) (AW _) (show i7 X.prog X.w _ _ _ (.tup ys) from⟨hz,its,r',v3.new _ _⟩)
  exact⟨.ref h'.objs.size,_,I2,rfl,q _ (I1.hok.fresh (AW _))⟩
 ·obtain⟨its,r',pl,hz⟩:=I.tuple hq;exact call_tuple_same pl ⟨.ref p,H,I,rfl,q⟩
abbrev tyV(K:AN)(T:String)(x:V)(H:Hp):Prop:=match x with
 |.str _=>T="str"
 |.int _=>T="int"
 |.ref p=>(T="list"/\∃xs,SqL K H p xs)\/(T="tuple"/\∃o,K.lookup p=AA o/\o.cls=.type "tuple"/\o.dict=AC)\/
   (T="dict"/\((∃kvs,H p=AA (.dK kvs))\/∃kvs,H p=AA (.dT kvs)))\/(T="set"/\∃S n,H p=AA (.set S n))
 |_=>False
def az4{T}{x}{v}(I:Inv X pins σ H s)(r:c8 x v)(ty:tyV X.K T x H):
  s.TypeIs v T/\∀a,v=.ref a->∃ob,s.heap.get? a=AA ob/\ob.dict=AC:=by
 cases x with
 |str z=>
  obtain⟨t,rfl⟩:=r;cases(ty);exact⟨typeIs_str s z t,λ_ e=>nomatch e⟩
 |int i=>
  obtain⟨t,rfl⟩:=r;cases(ty);exact⟨Jc s i t,λ_ e=>nomatch e⟩
 |ref p=>
  cases r
  rcases ty with⟨rfl,xs,hq⟩|⟨rfl,o,hk,hc,hd⟩|⟨rfl,hk⟩|⟨rfl,S,n,hk⟩
  ·obtain⟨its,_,pl,_⟩:=I.list hq;refine⟨pl.isList.typeIs,λa e=>?_⟩;cases e;obtain⟨o,n,e,c,hd,_⟩:=pl;exact⟨o,e,hd⟩
  ·refine⟨⟨o,I.kIn p o hk,hc⟩,λa e=>?_⟩;cases e;exact⟨o,I.kIn _ o hk,hd⟩
  ·have z:∃o,s.heap.get? p=AA o/\o.ExactDict:=by
    rcases hk with⟨kvs,hk⟩|⟨kvs,hk⟩
    ·obtain⟨_,_,_,_,o,_,_,e,ex,_⟩:=I.hok p _ hk;exact⟨o,e,ex⟩
    ·obtain⟨_,_,_,_,o,_,_,e,ex,_⟩:=I.hok p _ hk;exact⟨o,e,ex⟩
   obtain⟨o,e,ex⟩:=z;refine⟨⟨o,e,ex.1⟩,λa e2=>?_⟩;cases e2;exact⟨o,e,ex.2.1⟩
  ·obtain⟨o,_,_,_,e,ex,_⟩:=I.hok p _ hk;refine⟨⟨o,e,ex.1⟩,λa e2=>?_⟩;cases e2;exact⟨o,e,ex.2.1⟩
 |_=>exact AT ty
abbrev cw4(K:AN)(T:String)(r:V->List V->Hp->VK->Prop)(to:TE):TE:=λσ H Q=>to σ H λx H1=>tyV K T x H1/\r x [] H1 Q
abbrev tBM(K:AN)(T:String)(r:V->List V->Hp->VK->Prop)(to:TE)(t:TA):TE:=λσ H Q=>to σ H λx H1=>tyV K T x H1/\t σ H1 λxs H2=>r x xs H2 Q
variable {o e:AR} {es:List AR} {to:TE} {t:TA} {name:Str} {apos cpos:Pos} {T id:String} {r:V->List V->Hp->VK->Prop}
def a38(pa:PlainAttrs T)(slot:Slot T name id)(hty:typeOf (.builtin id)=pure (.type "method_descriptor"))(hm:MtR X id r)(ho:PE X o to)
  (hbase:DL o name X.env (eval o X.env)=eval o X.env:=by rfl) (hline:(apos.endLine==cpos.line)=AB:=by rfl):PE X (.Call (.Attribute o name apos) [] [] cpos) (cw4 X.K T r to):=by
 intro pins s σ H Q I h;refine wpAny_Call_method0_late hbase hline (thn (ho pins s σ H _ I h) λv s1 z26=>?_);obtain⟨x,H1,I1,r1,ty,q1⟩:=z26;obtain⟨h1,h2⟩:=az4 I1 r1 ty;exact⟨T,id,pa,slot,hty,h1,h2,Ef rfl (PySem.evalArgs_none (hm pins s1 σ H1 x [] v [] Q I1 r1 .nil q1))⟩
def cn3(pa:PlainAttrs T)(slot:Slot T name id)(hty:typeOf (.builtin id)=pure (.type "method_descriptor"))(hm:MtR X id r)(ho:PE X o to)(ha:PA X (e::es) t)
  (hbase:DL o name X.env (eval o X.env)=eval o X.env:=by rfl)
  (hfew:((CU cpos (Am (e::es) X.env)).all (λx=>!x.1)&&(Hk cpos (Fk [] X.env)).all (λx=>x.1.isSome)
   &&AE ((e::es).length+([]:List Jq).length+(if([]:List Jq).isEmpty then 0 else 1)<30))=AB:=by rfl)
  (hline:(apos.endLine==cpos.line)=AB:=by rfl) (hs:Am (e::es) X.env=(AH,eval e X.env)::Am es X.env:=by rfl) (hplain:(CU cpos (Am es X.env)).any (·.1)=AH:=by rfl) :
  PE X (.Call (.Attribute o name apos) (e::es) [] cpos) (tBM X.K T r to t):=by
 intro pins s σ H Q I h;refine wpAny_Call_method_late hbase hfew hline rfl (thn (ho pins s σ H _ I h) λv s1 z27=>?_);obtain⟨x,H1,I1,r1,ty,q1⟩:=z27;obtain⟨h1,h2⟩:=az4 I1 r1 ty;refine⟨T,id,pa,slot,hty,h1,h2,?_⟩;have hA:=ha cpos pins s1 σ H1 _ I1 q1;rw[hs]at hA ⊢;refine Ef (by show(AH||(CU cpos (Am es X.env)).any (·.1))=AH;rw[hplain]<;>rfl) (Hl ?_);exact thn hA λus s2⟨vs,H2,I2,r2,q2⟩=>hm pins s2 σ H2 x vs v us Q I2 r1 r2 q2
end
end L2
namespace L2
open PySem PySem.Spec PyProof.Rows
variable{us:List AG}{xs:List V}
abbrev MtM(X:Cx)(id:String)(r:V->List V->Hp->VK->Prop):Prop:=
 ∀(pins:List (AI×Obj))(s:AL)(σ:St)(H:Hp)(x:V)(xs:List V)(v:AG)(us:List AG)(Q:VK),Inv X pins σ H s->c8 x v->c0 xs us->r x xs H Q ->
  AV (model X.prog X.w) X.A (call (.builtin id) (v::us)) (EP X pins σ Q) X.xe s
def c0.one:∀{x}{us},c0 [x] us->∃u,us=[u]/\c8 x u
 |_,_,.cons r .nil=>⟨_,rfl,r⟩
def c0.two{x y}(h:c0 [x,y] us):∃u v,us=[u,v]/\c8 x u/\c8 y v:=by
 cases h with|cons r t=>cases t with|cons q t=>cases t;exact⟨_,_,rfl,r,q⟩
def c0.zero:∀{us:List AG},c0 [] us->us=[]
 |_,.nil=>rfl
theorem c0.dropLast(h:c0 xs us):c0 xs.dropLast us.dropLast:=by
 induction h with
 |nil=>exact .nil
 |cons r t ih=>
  cases t with
  |nil=>exact .nil
  |cons q t'=>exact .cons r ih
theorem c0.eraseIdx:∀{xs}{us}i,c0 xs us->c0 (xs.eraseIdx i) (us.eraseIdx i)
 |_,_,_,.nil=>.nil
 |_,_,0,.cons _ t=>t
 |_,_,i+1,.cons r t=>.cons r (c0.eraseIdx i t)
theorem c0.reverse(h:c0 xs us):c0 xs.reverse us.reverse:=by
 induction h with
 |nil=>exact .nil
 |cons r t ih=>rw[Dh,Dh];exact c0.append ih (.cons r .nil)
theorem c0.rep(h:c0 xs us):∀k,c0 (AY k xs).flatten (AY k us).flatten
 |0=>.nil
 |k+1=>c0.append h (c0.rep h k)
def be3{α:Type}(l:List α):l.eraseIdx (l.length-1)=l.dropLast:=by
 simp_all
theorem ao1{α:Type}:∀(l:List α)(i:Nat),(l.eraseIdx i).length<=l.length
 |[],_=>AW _
 |_::_,0=>Ic _
 |_::r,i+1=>As (ao1 r i)
theorem ac9(its:List AG):∀(k:Nat)(acc:List AG),
  FX (λx1 x2=>x1++x2) acc.toArray (AY k its.toArray)=(acc++(AY k its).flatten).toArray
 |0,acc=>by simp
 |k+1,acc=>by
  have e:acc.toArray++its.toArray=(acc++its).toArray:=by simp
  have e2:(acc++its)++(AY k its).flatten=acc++(AY (k+1) its).flatten:=by
   rw[CV,EL,Bz]
  rw[<-e2,<-ac9 its k (acc++its),<-e,CV,JB]
section
variable {X:Cx} {pins:List (AI×Obj)} {σ:St} {H:Hp} {s:AL} {l b:AI} {ys zs:List V}
def Inv.lset{its its':List AG}{n:Nat}{f:Array AG->Array AG}{t':Nat}(I:Inv X pins σ H s)(hH:H l=AA (.lst xs))
  (e:s.heap.get? l=AA {cls:=.type "list",data:=.seq its.toArray n}) (hf:f its.toArray=its'.toArray) (hv:c0 ys its') (hz:ys.length<=sizeLine) :
  Inv X pins σ (upd H l (.lst ys)) {s with heap:=s.heap.update l (Eu f),toks:=t'}:=by
 have q:=PySem.IsL.update e f;rw[hf]at q;refine I.write (x:=l) (e:=l) (by rw[hH];exact trivial) (.inl rfl) (λb' u hb hu=>(Heap.get?_update_other s.heap (Eu f) (DF hb)).trans hu) ⟨_,q⟩ ?_;exact⟨hz,its',_,hv,q⟩
def Inv.lnew{its}{t'}(I:Inv X pins σ H s)(hv:c0 ys its)(hz:ys.length<=sizeLine):
  Inv X pins σ (upd H s.heap.objs.size (.lst ys)) {s with heap:=s.heap.push {cls:=.type "list",data:=.seq its.toArray},toks:=t'}:=
 I.laid (λ_ _=>AQ _) (AW _) ⟨hz,its,0,hv,Ai _ rfl⟩
theorem Inv.fresh(I:Inv X pins σ H s):H s.heap.objs.size=AC:=I.hok.fresh (AW _)
def Inv.lstM(I:Inv X pins σ H s)(hH:H l=AA (.lst xs)):xs.length<=sizeLine/\∃(its:List AG)(n:Nat),c0 xs its/\xs.length=its.length/\s.heap.get? l=AA {cls:=.type "list",data:=.seq its.toArray n}:=by
 obtain⟨z,its,n,r,e⟩:=I.hok l _ hH;exact⟨z,its,n,r,r.length,e⟩
def ar1{n}(h:n<=sizeLine):Bx n=AH:=decide_eq_false ⋯
end
section
variable {X:Cx}
abbrev bv4:V->List V->Hp->VK->Prop:=λx vs H Q=>∃l xs y,x=.ref l/\vs=[y]/\H l=AA (.lst xs)/\xs.length<sizeLine/\Q .non (upd H l (.lst (xs++[y])))
def ao9:MtM X "list.append" bv4:=by
 intro pins s σ H x vs v us Q I rx rv h;obtain⟨l,xs,y,rfl,rfl,hH,hz,q⟩:=h;cases rx;obtain⟨u,rfl,ru⟩:=rv.one;obtain⟨z,its,n,r,hl,e⟩:=I.lstM hH;refine DV F.slot_list_append ⟨_,e,rfl⟩ F.entry_list_append (F.args_list_append_2 _ _) (PySem.list_append l its.toArray n u (by rw[Aa];lia)) ⟨e,?_⟩;refine⟨.non,_,I.lset hH e ∎ (r.append (.cons ru .nil)) ?_,rfl,q⟩;rw[AU,Ak];lia
abbrev av6:V->List V->Hp->VK->Prop:=λx vs H Q=>∃l b xs zs,x=.ref l/\vs=[.ref b]/\H l=AA (.lst xs)/\H b=AA (.lst zs)/\xs.length+zs.length<=sizeLine/\Q .non (upd H l (.lst (xs++zs)))
def bg7:MtM X "list.extend" av6:=by
 intro pins s σ H x vs v us Q I rx rv h;obtain⟨l,b,xs,zs,rfl,rfl,hH,hB,hz,q⟩:=h;cases rx;obtain⟨u,rfl,ru⟩:=rv.one;cases ru;obtain⟨z,its,n,r,hl,e⟩:=I.lstM hH;obtain⟨z2,its2,n2,r2,hl2,e2⟩:=I.lstM hB;have hsz:its.toArray.size+its2.toArray.size<=sizeLine:=by rw[Aa,Aa];lia
 have hlong:¬(!its.toArray.isEmpty&&Bx (its.toArray.size+its2.toArray.size))=AB:=by
  rw[ar1 hsz,Gv];exact AK
 refine DV F.slot_list_extend ⟨_,e,rfl⟩ F.entry_list_extend (F.args_list_extend_2 _ _)
  (AutoSeq1.list_extend_list_list_0 l its.toArray n b its2.toArray n2 hlong (by rw[Aa];lia) ⋯) ⟨e,e2,?_⟩
 refine⟨.non,_,I.lset (its':=its++its2) hH e ∎ (r.append r2) ?_,rfl,q⟩;rw[AU];lia
abbrev cy0:V->List V->Hp->VK->Prop:=λx vs H Q=>∃l xs y,x=.ref l/\vs=[]/\H l=AA (.lst xs)/\xs[xs.length-1]?=AA y/\Q y (upd H l (.lst xs.dropLast))
def cg4:MtM X "list.pop" cy0:=by
 intro pins s σ H x vs v us Q I rx rv h;obtain⟨l,xs,y,rfl,rfl,hH,hy,q⟩:=h;cases rx;have hus:=rv.zero;subst hus;obtain⟨z,its,n,r,hl,e⟩:=I.lstM hH;obtain⟨u,hu,ru⟩:=r.get hy;have hy':its.toArray[its.toArray.size-1]?=AA u:=by
  show its.toArray[its.length-1]?=AA u;rw[<-CZ,<-hl];exact hu
 refine DV F.slot_list_pop ⟨_,e,rfl⟩ F.entry_list_pop (F.args_list_pop_1 _) (MeetsSeq.list_pop_last l its.toArray n u hy' (by rw[Aa];lia)) ⟨e,?_⟩;refine⟨y,_,I.lset (its':=its.dropLast) hH e ?_ r.dropLast ?_,ru,q⟩
 ·show its.toArray.eraseIdxIfInBounds (its.toArray.size-1)=its.dropLast.toArray;rw[Aa,GF,be3]
 ·rw[List.length_dropLast];lia
abbrev b40:V->List V->Hp->VK->Prop:=λx vs H Q=>∃l xs i k y,x=.ref l/\vs=[.int i]/\H l=AA (.lst xs)/\-(2^63)<=i/\i<2^63/\KQ i xs.length=AA k/\xs[k]?=AA y/\Q y (upd H l (.lst (xs.eraseIdx k)))
def bo0:MtM X "list.pop" b40:=by
 intro pins s σ H x vs v us Q I rx rv h;obtain⟨l,xs,i,k,y,rfl,rfl,hH,h1,h2,hk,hy,q⟩:=h;cases rx;obtain⟨u,rfl,ru⟩:=rv.one;obtain⟨t,rfl⟩:=ru;obtain⟨z,its,n,r,hl,e⟩:=I.lstM hH;obtain⟨w,hw,rw'⟩:=r.get hy;refine DV F.slot_list_pop ⟨_,e,rfl⟩ F.entry_list_pop (F.args_list_pop_2 _ _)
  (MeetsSeq.list_pop_at l its.toArray n i t k w (fitsIndex_both h1 h2) (by rw[Aa,<-hl];exact hk) (by rw[<-CZ];exact hw) (by rw[Aa];lia)) ⟨e,?_⟩
 refine⟨y,_,I.lset (its':=its.eraseIdx k) hH e ?_ (r.eraseIdx k) ?_,rw',q⟩
 ·show its.toArray.eraseIdxIfInBounds k=(its.eraseIdx k).toArray;rw[GF]
 ·have:=ao1 xs k;lia
abbrev cw0:R2:=λx y H Q=>∃l b xs zs,x=.ref l/\y=.ref b/\H l=AA (.lst xs)/\H b=AA (.lst zs)/\xs.length+zs.length<=sizeLine/\∀p,H p=AC->Q (.ref p) (upd H p (.lst (xs++zs)))
def b34:OpR X (Cr .Add) cw0:=by
 intro pins s σ H x y v u Q I rx ry h;obtain⟨l,b,xs,zs,rfl,rfl,hH,hB,hz,q⟩:=h;cases rx;cases ry;obtain⟨z,its,n,r,hl,e⟩:=I.lstM hH;obtain⟨z2,its2,n2,r2,hl2,e2⟩:=I.lstM hB;refine PySem.P.add_list e e2 ?_ (by rw[Aa,Aa];lia);have ea:its.toArray++its2.toArray=(its++its2).toArray:=by simp
 rw[ea];exact⟨.ref _,_,I.lnew (r.append r2) (by rw[AU];lia),rfl,q _ I.fresh⟩
def aw6{α:Type}(xs:List α)(k:Nat):(AY k xs).flatten.length=k*xs.length:=by
 induction k with
 |zero=>simp
 |succ k ih=>rw[CV,EL,AU,ih,Hm,Nat.add_comm]
end
end L2
namespace L2
open PySem PySem.Spec PyProof.Rows
variable{o:Option V}{u:AG}{y:V}{P:Ah}{H H':Hp}{xs:List (Ap×AI×AG)}{a:AI}{X:Cx}{s:AL}{Q:AG->AL->Prop}{pos:Pos}
section
variable {κ:Type} [DecidableEq κ]
abbrev p4(kvs:List (κ×V))(k:κ):Option V:=(kvs.find? λkv=>AE (kv.1=k)).map (·.2)
abbrev v1(kvs:List (κ×V))(k:κ)(v:V):List (κ×V):=
 if(kvs.any λkv=>AE (kv.1=k))=AB then kvs.map (λkv=>if kv.1=k then(kv.1,v)else kv)else kvs++[(k,v)]
def ad5{p}{r}{k:κ}(e:p.1=k):p4 (p::r) k=AA p.2:=by simp[p4,e]
def ae1{p}{r}{k:κ}(e:¬p.1=k):p4 (p::r) k=p4 r k:=by simp[p4,e]
theorem ae0(k:κ):∀kvs,(kvs.any λkv=>AE (kv.1=k))=(p4 kvs k).isSome
 |[]=>rfl
 |p::r=>by
  rw[CW]
  by_cases e:p.1=k
  ·simp only[ad5 e,decide_eq_true e,Bk,ID]
  ·rw[ae1 e,decide_eq_false e];exact ae0 k r
def am1 kvs(k:κ)v:(v1 kvs k v).length<=kvs.length+1:=by
 unfold v1
 split
 ·rw[AX];lia
 ·simp_all
def bk6{kvs}{k:κ}v(h:p4 kvs k=AC):v1 kvs k v=kvs++[(k,v)]:=by
 unfold v1;rw[ae0,h];exact if_neg ∅
def t8.isSome_eq{u}(r:t8 o u):o.isSome=u.isSome:=by
 cases o with
 |none=>cases u with
  |none=>rfl
  |some _=>exact(r).elim
 |some _=>cases u with
  |none=>exact(r).elim
  |some _=>rfl
def KV.val{kvs}{vs}(r:KV kvs vs)(k:κ):t8 (p4 kvs k) (Gg vs k):=by
 induction r with
 |nil=>exact CS
 |@cons p q ps qs h t ih=>
  obtain⟨h1,h2⟩:=h
  by_cases e:p.1=k
  ·have e':=h1.symm.trans e;have b:Gg (q::qs) k=AA q.2:=by simp[Gg,e']
   rwa[ad5 e,b]
  ·have e':¬q.1=k:=λz=>e (h1.trans z);have b:Gg (q::qs) k=Gg qs k:=by simp[Gg,e']
   rwa[ae1 e,b]
theorem KV.any{kvs}{vs}(r:KV kvs vs)(k:κ):(kvs.any λkv=>AE (kv.1=k))=vs.any λkv=>AE (kv.1=k):=by
 induction r with
 |nil=>rfl
 |cons h t ih=>simp_all
def KV.repl{kvs}{vs}(r:KV kvs vs)(k:κ)(ry:c8 y u):
  KV (kvs.map λkv=>if kv.1=k then(kv.1,y)else kv) (vs.map λkv=>if kv.1=k then(kv.1,u)else kv):=by
 induction r with
 |nil=>exact .nil
 |@cons p q ps qs h t ih=>
  refine .cons ?_ ih;by_cases e:p.1=k
  ·simp_all
  ·simp_all
def KV.put{kvs}{vs}(r:KV kvs vs)(k:κ)(ry:c8 y u):KV (v1 kvs k y) (stored vs k u):=by
 unfold v1 stored;rw[r.any k]
 by_cases e:(vs.any λkv=>AE (kv.1=k))=AB
 ·rw[if_pos e,if_pos e];exact r.repl k ry
 ·rw[if_neg e,if_neg e];exact Paired.snoc r ⟨rfl,ry⟩
theorem KV.length{kvs:List (κ×V)}{vs}(r:KV kvs vs):kvs.length=vs.length:=Paired.length r
end
def Y5{w:Aq}{k:Key}(r:c8 (kV k) u):(E8 P w).is k u=AB:=by
 cases k with
 |inl i=>obtain⟨t,e⟩:=(show ∃t,u=Da i t from r);subst e;exact bd0 P w i t
 |inr x=>obtain⟨t,e⟩:=(show ∃t,u=EY x t from r);subst e;exact bd3 P w x t
@[reducible]noncomputable def KT(H:Hp):List (Ap×V)->List (Ap×AI×AG)->Prop:=Paired λp q=>p.1=q.1/\C4 H p.1 q.2.1/\c8 p.2 q.2.2
def KT.val{kvs:List (Ap×V)}(r:KT H kvs xs)(k:Ap):t8 (p4 kvs k) ((Hn xs k).map (·.2)):=by
 induction r with
 |nil=>exact CS
 |@cons p q ps qs h t ih=>
  obtain⟨h1,_,h2⟩:=h
  by_cases e:p.1=k
  ·have e':q.1=k:=h1.symm.trans e;have b:Hn (q::qs) k=AA q.2:=by simp[Hn,Ds,e']
   rw[ad5 e,b];exact h2
  ·have e':¬q.1=k:=λz=>e (h1.trans z);have b:Hn (q::qs) k=Hn qs k:=by simp[Hn,Ds,e']
   rw[ae1 e,b];exact ih
def KT.repl{kvs:List (Ap×V)}(r:KT H kvs xs)(k:Ap)(ry:c8 y u):
  KT H (kvs.map λkv=>if kv.1=k then(kv.1,y)else kv) (xs.map (putAt k u)):=by
 induction r with
 |nil=>exact .nil
 |@cons p q ps qs h t ih=>
  rw[An,An];refine .cons ?_ ih;obtain⟨h1,h2,h3⟩:=h;unfold putAt
  by_cases e:p.1=k
  ·rw[if_pos e,if_pos (h1.symm.trans e)];exact⟨h1,h2,ry⟩
  ·rw[if_neg e,if_neg (λz=>e (h1.trans z))];exact⟨h1,h2,h3⟩
def KT.put{kvs:List (Ap×V)}(r:KT H kvs xs)(k:Ap){b:AI}(hb:C4 H k b)(ry:c8 y u):
  KT H (v1 kvs k y) (storedH xs k b u):=by
 have e:(kvs.any λkv=>AE (kv.1=k))=(Hn xs k).isSome:=by
  rw[ae0,(r.val k).isSome_eq,FY]
 unfold v1 storedH;rw[e]
 by_cases q:(Hn xs k).isSome=AB
 ·rw[if_pos q,if_pos q];exact r.repl k ry
 ·rw[if_neg q,if_neg q];exact Paired.snoc r ⟨rfl,hb,ry⟩
theorem KT.keeps{kvs:List (Ap×V)}(r:KT H kvs xs)(ht:∀b ys,H b=AA (.tup ys)->H' b=AA (.tup ys)):KT H' kvs xs:=
 Paired.mapP r λ_ _ z=>⟨z.1,z.2.1.keeps ht,z.2.2⟩
section
variable {w:Aq} {h:Heap} 
def a66{u}(ok:HOk P w H h)(e:Rd H a u):=e.ok ok
def R8{kvs}(ok:HOk P w H h)(e:Rd H a (.dK kvs)):kvs.length<=sizeLine/\(a==Cp)=AH/\∃vs,KV kvs vs/\h.DictOf (E8 P w) a vs:=
 a66 ok e
def cp7{kvs}(ok:HOk P w H h)(e:H a=AA (.dK kvs)):=R8 ok (.inl e)
def bk2(ok:HOk P w H h):∀(n:Nat)(d:Ap),d.depth<=n->∀{v:V}{u:AG},HRd H d v->c8 v u->∃as,Reads h u d as:=by
 have all:∀n,(∀d:Ap,d.depth<=n->∀{v:V}{u:AG},HRd H d v->c8 v u->∃as,Reads h u d as)->∀(ds:List Ap),CQ ds<=n->∀{vs:List V}{us:List AG},E4 H ds vs->c0 vs us->∃as,ReadsAll h us ds as:=λn ih ds=>by
  induction ds with
  |nil=>
   intro _ vs us q r;obtain rfl:vs=[]:=q;cases r;exact⟨_,.nil⟩
  |cons d ds ihd=>
   intro hd vs us q r;obtain⟨v,vr,rfl,q1,q2⟩:=q;have hd':max d.depth (CQ ds)<=n:=hd;cases r with
   |cons r1 r2=>
    obtain⟨a1,x1⟩:=ih d ⋯ q1 r1;obtain⟨a2,x2⟩:=ihd ⋯ q2 r2;exact⟨_,.cons x1 x2⟩
 intro n
 induction n with
 |zero=>
  intro d hd v u q r;cases d with
  |int i=>obtain rfl:v=.int i:=q;obtain⟨t,rfl⟩:=(show ∃t,u=Da i t from r);exact⟨_,.int _ _⟩
  |str x=>obtain rfl:v=.str x:=q;obtain⟨t,rfl⟩:=(show ∃t,u=EY x t from r);exact⟨_,.str _ _⟩
  |tuple ds=>rw[NK.depth_tup]at hd;lia
  |none=>exact q.elim
  |bool _=>exact q.elim
  |list _=>exact q.elim
  |dict _=>exact q.elim
 |succ n ih=>
  intro d hd v u q r;cases d with
  |int i=>obtain rfl:v=.int i:=q;obtain⟨t,rfl⟩:=(show ∃t,u=Da i t from r);exact⟨_,.int _ _⟩
  |str x=>obtain rfl:v=.str x:=q;obtain⟨t,rfl⟩:=(show ∃t,u=EY x t from r);exact⟨_,.str _ _⟩
  |none=>exact q.elim
  |bool _=>exact q.elim
  |list _=>exact q.elim
  |dict _=>exact q.elim
  |tuple ds=>
   rw[NK.depth_tup]at hd;obtain⟨b,vs,rfl,q1,q2⟩:=q;cases(show u=Az b from r);obtain⟨_,its,rv,o,h1,h2,_,m,h3⟩:=(show i7 P w H h b (.tup vs) from ok b _ q1);obtain⟨as,x⟩:=all n ih ds ⋯ q2 rv;exact⟨_,.tuple h1 h2 h3 (by simpa using x)⟩
def D4{k}(ok:HOk P w H h)(e:C4 H k a):(NK.dataKind P w).is h k a:=⟨e.1,e.2.1,bk2 ok 7 k e.2.1 e.2.2 rfl⟩
def R5{kvs:List (Ap×V)}(ok:HOk P w H h)(e:Rd H a (.dT kvs)):kvs.length<=sizeLine/\(a==Cp)=AH /\
  ∃xs,KT H kvs xs/\h.DictOfH (NK.dataKind P w) a xs:=by
 obtain⟨z,y,xs,r,o,es,ep,h1,h2,h3,h4,h5⟩:=(show i7 P w H h a (.dT kvs) from a66 ok e);refine⟨z,y,xs,r,o,es,ep,h1,h2,h3,h4,λx hx=>?_,h5⟩;have all:∀{l:List (Ap×V)}{m:List (Ap×AI×AG)},KT H l m->∀x∈m,(NK.dataKind P w).is h x.1 x.2.1:=by
  intro l m q
  induction q with
  |nil=>intro x hx;exact nomatch hx
  |@cons p q ps qs hq t ih=>
   intro x hx
   rcases Ae.mp hx with e|hx
   ·subst e;exact D4 ok (by rw[<-hq.1];exact hq.2.1)
   ·exact ih x hx
 exact all r x hx
def cl1{kvs:List (Ap×V)}(ok:HOk P w H h)(e:H a=AA (.dT kvs)):kvs.length<=sizeLine/\(a==Cp)=AH /\
  ∃xs,KT H kvs xs/\h.DictOfH (NK.dataKind P w) a xs:=R5 ok (.inl e)
end
abbrev A1(H:Hp)(a:AI)(y:V)(r:Option V):Prop:=
 (∃kvs k,Rd H a (.dK kvs)/\y=kV k/\r=p4 kvs k)\/∃kvs k b,Rd H a (.dT kvs)/\y=.ref b/\C4 H k b/\r=p4 kvs k
abbrev N8(H:Hp)(a:AI)(y v:V)(H':Hp):Prop:=
 (∃kvs k,H a=AA (.dK kvs)/\y=kV k/\kvs.length<sizeLine/\H'=upd H a (.dK (v1 kvs k v)))\/
 ∃kvs k b,H a=AA (.dT kvs)/\y=.ref b/\C4 H k b/\kvs.length<sizeLine/\H'=upd H a (.dT (v1 kvs k v))
theorem A1.k{kvs}{k}(e:H a=AA (.dK kvs)):A1 H a (kV k) (p4 kvs k):=.inl ⟨kvs,k,.inl e,rfl,rfl⟩
theorem N8.k{kvs:List (Key×V)}{k:Key}{v:V}(e:H a=AA (.dK kvs))(hl:kvs.length<sizeLine):N8 H a (kV k) v (upd H a (.dK (v1 kvs k v))):=.inl ⟨kvs,k,e,rfl,hl,rfl⟩
section
variable {pins:List (AI×Obj)} {σ:St} {v:V} {r:AG} {A:BP} {E:AG->AL->Prop}
def Inv.big(I:Inv X pins σ H s):Cp<s.heap.objs.size:=by
 have h:AO<s.heap.objs.size:=(I.mod.glob.keeps I.bk).lt;exact Fm ∅ h
def bi2(hu:A.units+20<Cm)(I:Inv X pins σ H s)(g:A1 H a y (AA v))(ry:c8 y u)(h:∀w' s',Inv X pins σ H s'->c8 v w'->Q w' s'):
  AV (model X.prog X.w) A (Ep (.ref a) u) Q E s:=by
 rcases g with⟨kvs,k,e,ey,l⟩|⟨kvs,k,b,e,ey,eb,l⟩
 ·subst ey;obtain⟨z,hd,vs,rel,dd⟩:=R8 I.hok e;obtain⟨w',hw,rw'⟩:=t8.some_of (v:=v) (o:=Gg vs k) (by rw[l];exact rel.val k);exact wpAny_getItem_of (Y5 ry) dd.mapOf hw (h w' _ (I.tok _) rw')
 ·subst ey;cases(show u=Az b from ry);obtain⟨z,hd,xs,rel,dd⟩:=R5 I.hok e;obtain⟨w',hw,rw'⟩:=t8.some_of (v:=v) (o:=(Hn xs k).map (·.2)) (by rw[l];exact rel.val k);obtain⟨p,hp,hp2⟩:=DI.mp hw;refine wpAny_getItem_heap (NK.dataKind_room_in1 hu) (D4 I.hok eb) dd hp ?_;rw[hp2];exact h w' _ (I.tok _) rw'
def cu7(hu:A.units+20<Cm)(I:Inv X pins σ H s)(g:A1 H a y o)(ry:c8 y u)(h:∀s',Inv X pins σ H s'->Q (.bool o.isSome) s'):
  AV (model X.prog X.w) A (CJ .In u (.ref a)) Q E s:=by
 rcases g with⟨kvs,k,e,ey,l⟩|⟨kvs,k,b,e,ey,eb,l⟩
 ·subst ey;obtain⟨z,hd,vs,rel,dd⟩:=R8 I.hok e;refine wpAny_in_of (Y5 ry) hd dd.mapOf ?_;rw[<-(rel.val k).isSome_eq,<-l];exact h _ (I.tok _)
 ·subst ey;cases(ry);obtain⟨z,hd,xs,rel,dd⟩:=R5 I.hok e;refine wpAny_in_heap (NK.dataKind_room_in1 hu) (D4 I.hok eb) hd dd ?_;have q:=(rel.val k).isSome_eq;rw[FY]at q;rw[<-q,<-l];exact h _ (I.tok _)
def by0(hu:A.units+20<Cm)(I:Inv X pins σ H s)(g:A1 H a y o)(ry:c8 y u)(h:∀s',Inv X pins σ H s'->Q (.bool (!o.isSome)) s'):
  AV (model X.prog X.w) A (CJ .NotIn u (.ref a)) Q E s:=by
 rcases g with⟨kvs,k,e,ey,l⟩|⟨kvs,k,b,e,ey,eb,l⟩
 ·subst ey;obtain⟨z,hd,vs,rel,dd⟩:=R8 I.hok e;refine wpAny_notIn_of (Y5 ry) hd dd.mapOf ?_;rw[<-(rel.val k).isSome_eq,<-l];exact h _ (I.tok _)
 ·subst ey;cases(ry);obtain⟨z,hd,xs,rel,dd⟩:=R5 I.hok e;refine wpAny_notIn_heap (NK.dataKind_room_in1 hu) (D4 I.hok eb) hd dd ?_;have q:=(rel.val k).isSome_eq;rw[FY]at q;rw[<-q,<-l];exact h _ (I.tok _)
def av7{h':Heap}{t':Nat}{ob:HO}(I:Inv X pins σ H s)(mu:Mut (H a))(hs:Heap.SameBut a s.heap h')(he:∃q,h'.get? a=AA q)(new:i7 X.prog X.w (upd H a ob) h' a ob):
  Inv X pins σ (upd H a ob) {s with heap:=h',toks:=t'}:=
 I.write (x:=a) (e:=a) mu (.inl rfl) (λb q hb z=>(hs.2 b hb).trans z) he new
def cc3{w:Aq}{h':Heap}{kvs:List (Key×V)}{vs:List (Key×AG)}(z:kvs.length<=sizeLine)(hd:(a==Cp)=AH)(rel:KV kvs vs)(dd:h'.DictOf (E8 P w) a vs):
  i7 P w H' h' a (.dK kvs):=⟨z,hd,vs,rel,dd⟩
def bi3{Q:Unit->AL->Prop}(hu:A.units+20<Cm)(I:Inv X pins σ H s)(g:N8 H a y v H')(ry:c8 y u)(rv:c8 v r)(h:∀s',Inv X pins σ H' s'->Q () s'):
  AV (model X.prog X.w) A (Jl (.ref a) u r) Q E s:=by
 rcases g with⟨kvs,k,e,ey,l,eH⟩|⟨kvs,k,b,e,ey,eb,l,eH⟩
 ·subst ey eH;obtain⟨z,hd,vs,rel,dd⟩:=cp7 I.hok e;have hz:vs.length<=sizeLine:=by rw[<-rel.length];exact z
  have hl:(v1 kvs k v).length<=sizeLine:=by have:=am1 kvs k v;lia
  refine wpAny_setItem_pairs (hsz:=hz) (Y5 ry) dd λh' dd' hs=>h _ ?_;have he:∃q,h'.get? a=AA q:=let⟨q,_,_,hq,_⟩:=dd';⟨q,hq⟩;exact av7 I (by rw[e];exact CS) hs he (cc3 hl hd (rel.put k rv) dd')
 ·subst ey eH;cases(show u=Az b from ry);obtain⟨z,hd,xs,rel,dd⟩:=cl1 I.hok e;have hz:xs.length<=sizeLine:=by rw[<-Paired.length rel];exact z
  have hl:(v1 kvs k v).length<=sizeLine:=by have:=am1 kvs k v;lia
  refine wpAny_setItem_heap (hsz:=hz) (NK.dataKind_room_in1 hu) (D4 I.hok eb) dd λh' dd' hs=>h _ ?_;obtain⟨q,es,ep,hq,h2,h3,h4,_,h5⟩:=dd';refine av7 I (by rw[e];exact CS) hs ⟨q,hq⟩ ⟨hl,hd,_,(rel.put k eb rv).keeps λc ys ec=>?_,q,es,ep,hq,h2,h3,h4,h5⟩;rw[e8 (cl6 ec e (λz=>nomatch z))];exact ec
end
abbrev cy2(i:AR):Prop:=∀ov iv,subscripted i AH ov iv=operate [ov,iv] (Ep ov iv)
def b22{prog:Ah}{w:Aq}{A:BP}{E:AG->AL->Prop}{env:Env}{value slice:AR}{T id:String}
  (hl:typeLookup (.type T) "__getitem__"=pure (AA (.builtin id))) (hs:cy2 slice)
  (h:AV (model prog w) A (eval value env) (λo s₁=>AV (model prog w) A (eval slice env) (λi s₂=>s₂.TypeIs o T/\AV (model prog w) A (Ep o i) Q E s₂) E s₁) E s) :
  AV (model prog w) A (eval (.Subscript value slice pos) env) Q E s:=by
 refine Jb (Bf h (λo s₁ h₁=>Bf h₁ (λi s₂ h₂=>?_) λ_ _ x=>x) λ_ _ x=>x);obtain⟨hT,h₂⟩:=h₂;unfold GQ;refine AD ?_;rw[Ir hT.not_modules];refine AD (DN hT hl ?_);have fin:AV (model prog w) A (subscripted slice AH o i) (λr s₃=>AV (model prog w) A (Kq value o r>>=λ_=>pure r) Q E s₃) E s₂:=by
  rw[hs o i];exact KZ (Bf h₂ (λr s₃ h₃=>AD (JC (AJ h₃))) λ_ _ x=>x)
 first
  |exact AJ (AD fin)
  |exact AD (AJ (AD fin))
  |exact AD fin
def bc9{pins:List (AI×Obj)}{σ:St}(I:Inv X pins σ H s)(g:A1 H a y o):s.TypeIs (.ref a) "dict":=by
 rcases g with⟨kvs,k,e,_,_⟩|⟨kvs,k,b,e,_,_,_⟩
 ·obtain⟨_,_,vs,_,dd⟩:=R8 I.hok e;exact dd.typeIs
 ·obtain⟨_,_,xs,_,dd⟩:=R5 I.hok e;exact dd.typeIs
abbrev cm3(td ty tv:TE):TS:=λD σ H=>tv σ H λv H1=>td σ H1 λx H2=>ty σ H2 λy H3=>∃a H4,x=.ref a/\N8 H3 a y v H4/\D.nx σ H4
section
variable {o i e value:AR} {pos' tpos:Pos} {td ty tv:TE}
def b16(hu:X.A.units+20<Cm)(ho:PE X o td)(hi:PE X i ty)(hv:PE X value tv)(hs:Ci value (AA (.Subscript o i pos')) pos.line X.env=pure AH):
  PS X (.Assign [.Subscript o i pos'] value pos) (cm3 td ty tv):=by
 intro pins s σ H D I h;refine wpAny_Assign_Subscript (thn (hv pins s σ H _ I h) λr s1⟨v,H1,I1,rv,q1⟩=>thn (ho pins s1 σ H1 _ I1 q1) λu s2⟨x,H2,I2,rx,q2⟩=>thn (hi pins s2 σ H2 _ I2 q2) λiv s3 z28=>?_) hs;obtain⟨y,H3,I3,ry,a,H4,ex,g,q3⟩:=z28;subst ex;obtain rfl:u=Az a:=rx;exact bi3 hu I3 g ry rv λs4 I4=>⟨σ,H4,I4,q3⟩
end
def bp1{w:Aq}(h:Heap)(hb:Cp<h.objs.size):i7 P w H (h.push {cls:=.type "dict",data:=.dict #[]}) h.objs.size (.dK []):=
 ⟨Ao _,beq_eq_false_iff_ne.mpr (DF (BE hb)),[],.nil,Heap.DictOf.new h⟩
abbrev cb9:TE:=λ_ H Q=>∀p,H p=AC->Q (.ref p) (upd H p (.dK []))
section
def bo1:PE X (.Dict [] [] pos) cb9:=λpins s σ H Q I h=>
 wpAny_Dict_empty ⟨.ref s.heap.objs.size,_,I.laid (a:=s.heap.objs.size) (o:=.dK []) (t':=s.toks) (λ_ _ q=>AQ _ q) (AW _) (bp1 s.heap I.big),rfl,h _ (I.hok.fresh (AW _))⟩
end
abbrev IsD(H:Hp)(a:AI):Prop:=(∃kvs,Rd H a (.dK kvs))\/∃kvs,Rd H a (.dT kvs)
end L2
namespace Att
open PySem PySem.W PySem.Calls PyProof.Rows
def bb4{P}{h}:∀ns(vs),WellAll P h vs (ns.map Ka)->CL vs ns:=by
 intro ns
 induction ns with
 |nil=>
  intro vs w;cases w;exact .nil
 |cons n ns ih=>
  intro vs w;cases w with
  |cons a b=>
   cases a;exact .cons _ _ (ih _ b)
def bi4{l:OpenLaw}{n}(hn:l.most=AA n){P}{h}{args}{vals}
  (hpre:l.row.toRowW.claim.pre args=AB) (hwl:WellAll P h vals args) :
  ∃a vs ns,vals=[Az a]/\args=[WData.list (ns.map Ka)]/\h.get? a=AA {cls:=.type "list",data:=.seq vs.toArray}/\CL vs ns/\ns.length<=n:=by
 have hsh:=(pre_splitW hpre).1;have hc:=(pre_splitW hpre).2;obtain⟨d,r,rfl,h1,h2⟩:=hasAllW_cons hsh;obtain rfl:=hasAllW_nil h2;obtain⟨xs,rfl,h3⟩:=hasW_list h1;obtain⟨ns,rfl⟩:=items_int h3;have hlen:ns.length<=n:=by
  have h4:=by
   have h4:=(holds_andW hc).1;rwa[hn]at h4
  have h5:=condW_of h4 (w_not (w_lt w_lit (w_len_list (w_arg rfl))));first
   |rfl
   |simp_all
 cases hwl with
 |cons w1 w2=>
  cases w2;cases w1 with
  |list ho hall=>exact⟨_,_,ns,rfl,rfl,ho,bb4 ns _ hall,hlen⟩
def bg6(l:OpenLaw)args:l.row.toRowW.claim.post args (.bool AB) args=AB:=
 postW_of
  rfl
  (w_eq_bool (w_res rfl) w_lit) rfl
def attach_call{l:OpenLaw}{n}{q}{loose}{XP}{YP}{d}
  (hn:l.most=AA n) (hdf:d.params.defaults=[])
  (call:∀w(s₀ s₁)mg mb(fa)(o)pm cd doc(a)(vs)ns,
   Ground q loose [] XP w s₀ mg mb s₁.heap->YP w s₁.heap ->
   s₁.heap.get? fa=AA o->o.data=.func (docDef d.name d.params d.body d.scope pm cd doc)->s₁.heap.CodeRec cd d.name->mg d.name=AA (.ref fa) ->
   s₁.heap.get? a=AA {cls:=.type "list",data:=.seq vs.toArray}->CL vs ns->ns.length<=n->s₁.gens=#[] ->
   Dw (model l.prog w) HW (.call (.ref fa) ⟨[.ref a],[]⟩) (λr s'=>r=.ok (.ret (.bool AB))/\OldK s₁.heap s'.heap/\s'.os=s₁.os/\Ge s'.gens) s₁) :
  WalkO q loose XP YP l.row.toRowW d [] (λf vs=>PySem.call f vs):=by
 intro w s₀ s₁ mg mb G Y fa o pm cd doc dV kV ho hd hcd hD hmg hg args vals as hpre hlay hrd hwl hlo;obtain rfl:dV=.none:=Dflts.none hD hdf;obtain rfl:kV=.none:=Dflts.noKw hD;obtain⟨a,vs,ns,rfl,rfl,hobj,hints,hlen⟩:=bi4 hn hpre hwl;refine enter_call (Dd (call w s₀ s₁ mg mb fa o pm cd doc a vs ns G Y ho (fd_plain hd) hcd hmg hobj hints hlen hg) λr s' hq=>?_);obtain⟨rfl,h2,h3,h4⟩:=hq;exact⟨.inl ⟨.bool AB,.bool AB,[],rfl,λ_=>rfl,.bool AB,bg6 l _,λ_=>⟨KR,λ_ hm=>(nomatch hm)⟩⟩,h2,h3,h4⟩
section
variable {prog:Ah} {w:Aq} {A:BP} {E:AG->AL->Prop} {s:AL} {K:Frag}
abbrev cz9(h:Heap)(L d:AI):List (AI×Obj):=(BG h.objs.size).filterMap λa=>if a=L\/a=d then AC else(h.get? a).map λo=>(a,o)
end
end Att
namespace L2
open PySem PySem.Spec PyProof.Rows
theorem ap3:∀{vs}{ns},CL vs ns->c0 (ns.map V.int) vs
 |_,_,.nil=>.nil
 |_,_,.cons n t h=>.cons ⟨t,rfl⟩ (ap3 h)
abbrev u7(s:BV):DD:=match s with
 |.FunctionDef _ a _ _ _ _ _ _ _ _=>a
 |_=>{posonlyargs:=[],args:=[],vararg:=AC,kwonlyargs:=[],kw_defaults:=[],kwarg:=AC,defaults:=[]}
abbrev u0(s:BV):List BV:=match s with
 |.FunctionDef _ _ b _ _ _ _ _ _ _=>b
 |_=>[]
abbrev j8(s:BV):BB:=match s with
 |.FunctionDef _ _ _ _ _ _ sc _ _ _=>sc
 |_=>{kind:=.function,names:=[],isGenerator:=AH,isCoroutine:=AH}
@[reducible]noncomputable def CX0:CXT:=λ_ _ _ _ _ _=>False
@[reducible]noncomputable def E0:XK:=λ_ _ _=>False
def D6{X:Cx}:M6 CX0 X E0:=λ_ _ _ _ _ _ _ h=>h.elim
def ao2{n:Nat}(h:n<=1000):n<sizeLine:=Di h ∅
abbrev v6(H H':Hp):Prop:=∀b o,H b=AA o->H' b=AA o
def v6.refl(H:Hp):v6 H H:=λ_ _ h=>h
def v6.trans{H H1 H2}(a:v6 H H1)(b:v6 H1 H2):v6 H H2:=λc o h=>b c o (a c o h)
end L2
namespace PySem.SetTable
variable{xs:Array Nat}{j:Nat}{t:Bq}
@[reducible]noncomputable def Ris(l:List Nat):Prop:=l.Pairwise (·<·)
def Q9(h:Ris xs.toList){i k:Nat}(hk:k<xs.size)(hi:i<k):xs[i]'(Fm hi hk)<xs[k]:=by
 have:=List.pairwise_iff_getElem.mp h i k (by simpa using Fm hi hk) (by simpa using hk) hi;simpa using this
structure Bel(xs:Array Nat)(j p:Nat):Prop where
 le:p<=xs.size
 lo:∀i(h:i<xs.size),i<p->xs[i]<j
 hi:∀i(h:i<xs.size),p<=i->j<=xs[i]
theorem ag6(hs:Ris xs.toList):∀fuel lo hi,hi-lo<=fuel->lo<=hi->hi<=xs.size->(∀i(h:i<xs.size),i<lo->xs[i]<j)->(∀i(h:i<xs.size),hi<=i->j<=xs[i])->Bel xs j (below.go xs j fuel lo hi)
 |0,lo,hi,hf,hl,hx,h1,h2=>⟨by show lo<=_;lia,h1,λi h hi=>h2 i h (by have:lo<=i:=hi;lia)⟩
 |fuel+1,lo,hi,hf,hl,hx,h1,h2=>by
  unfold below.go
  by_cases h:lo<hi
  ·rw[if_pos h];have hm:(lo+hi) / 2<xs.size:=by lia
   dsimp only;have e:xs.getD ((lo+hi) / 2) j=xs[(lo+hi) / 2]:=by simp[CP,hm]
   rw[e]
   by_cases hc:xs[(lo+hi) / 2]<j
   ·rw[if_pos hc];refine ag6 hs fuel _ _ ⋯ ⋯ hx (λi hi1 hi2=>?_) h2
    by_cases z:i=(lo+hi) / 2
    ·subst z;exact hc
    ·have:=Q9 hs hm (show i<(lo+hi) / 2 by lia);lia
   ·rw[if_neg hc];refine ag6 hs fuel _ _ ⋯ ⋯ ⋯ h1 (λi hi1 hi2=>?_)
    by_cases z:i=(lo+hi) / 2
    ·subst z;lia
    ·have:=Q9 hs hi1 (show(lo+hi) / 2<i by lia);lia
  ·rw[if_neg h];exact⟨⋯,h1,λi h hi=>h2 i h ⋯⟩
def ag8(hs:Ris xs.toList)(j:Nat):Bel xs j (below xs j):=ag6 hs _ 0 _ ⋯ (Ao _) (AW _) (λi _ h=>absurd h (Fn _)) (λi h1 h2=>⋯)
def Bel.eq{p q:Nat}(a:Bel xs j p)(b:Bel xs j q):p=q:=by
 rcases Nat.lt_trichotomy p q with h|h|h
 ·have hp:p<xs.size:=Ab h b.le;have:=a.hi p hp (AW _);have:=b.lo p hp h;lia
 ·exact h
 ·have hp:q<xs.size:=Ab h a.le;have:=b.hi q hp (AW _);have:=a.lo q hp h;lia
def bw5(hs:Ris t.place.toList)(h:j∉t.place.toList)(hd:t.dummies=#[]):t.slot j=.empty:=by
 unfold slot has;rw[hd];dsimp only;rw[if_neg,if_neg]
 ·simp
 ·intro e;have e:t.place[below t.place j]?=AA j:=by simpa using e
  obtain⟨h1,h2⟩:=Gh.mp e;exact h (by rw[<-h2];simp)
def a60(hs:Ris t.place.toList)(h:t.slot j=.empty):∀i(hi:i<t.place.size),below t.place j<=i->j<t.place[i]:=by
 intro i hi hb;have B:=ag8 hs j;have hp:below t.place j<t.place.size:=by lia
 have ne:t.place[below t.place j]≠j:=by
  intro e;unfold slot at h;dsimp only at h;rw[if_pos (by rw[Bn hp,e];simp)]at h;cases h
 have:=B.hi _ hp (AW _)
 by_cases z:i=below t.place j
 ·subst z;lia
 ·have:=Q9 hs hi (show below t.place j<i by lia);lia
def b10(hs:Ris t.place.toList)(h:t.slot j=.empty):Ris (insertAt t.place (below t.place j) j).toList:=by
 have B:=ag8 hs j;rw[toList_insertAt];refine List.pairwise_append.mpr ⟨hs.sublist (Fx _ _),IS.mpr ⟨λx hx=>?_,hs.sublist (List.drop_sublist _ _)⟩,λx hx y hy=>?_⟩
 ·obtain⟨i,hi,rfl⟩:=Ea hx;rw[CB]at hi;rw[Ij];have:=a60 hs h (below t.place j+i) (by simpa using(by lia:below t.place j+i<t.place.toList.length)) ⋯;simpa using this
 ·obtain⟨i,hi,rfl⟩:=Ea hx;rw[Bt]at hi;have l1:=B.lo i (by simpa using(by lia:i<t.place.toList.length)) ⋯;have l1:(t.place.toList.take (below t.place j))[i]<j:=by rw[List.getElem_take];simpa using l1
  rcases Ae.mp hy with rfl|hy
  ·exact l1
  ·obtain⟨k,hk,rfl⟩:=Ea hy;rw[CB]at hk;have:=a60 hs h (below t.place j+k) (by simpa using(by lia:below t.place j+k<t.place.toList.length)) ⋯;refine Fm l1 ?_;rw[Ij];simpa using this
theorem as7:∀(l:List Nat)(b:Nat),Ris l->(∀x∈l,b<=x)->∃j,b<=j/\j<=b+l.length/\j∉l
 |[],b,_,_=>⟨b,AW _,AW _,Ba⟩
 |x::r,b,hr,hb=>by
  obtain⟨h1,h2⟩:=IS.mp hr
  by_cases e:x=b
  ·obtain⟨j,a1,a2,a3⟩:=as7 r (b+1) h2 (λy hy=>by have:=h1 y hy;lia);exact⟨j,⋯,by simp only[AS];lia,λh=>by
    rcases Ae.mp h with h|h
    ·lia
    ·exact a3 h⟩
  ·have:=hb x ∎;exact⟨b,AW _,⋯,λh=>by
    rcases Ae.mp h with rfl|h
    ·exact e rfl
    ·have:=h1 b h;lia⟩
abbrev sq(m:Nat):Nat->Nat×Nat->Nat×Nat
 |0,x=>x
 |n+1,x=>sq m n (leap m x.1 x.2)
theorem M0(m:Nat):∀a b x,sq m (a+b) x=sq m b (sq m a x)
 |0,b,x=>by rw[Ch];rfl
 |a+1,b,x=>by rw[Kr];exact M0 m a b _
theorem ag9(m:Nat):∀n x,(sq m n x).2=x.2 / 32^n
 |0,x=>by simp[sq]
 |n+1,x=>by
  show(sq m n (leap m x.1 x.2)).2=_;rw[ag9 m n];show x.2 / 32 / 32^n=_;rw[Nat.div_div_eq_div_mul,KS,JD]
theorem a71(m:Nat):∀n x,x.1<m+1->(sq m n x).1<m+1
 |0,x,h=>h
 |n+1,x,h=>a71 m n _ (Ks _ (Fp _))
abbrev a98(m:Nat):Bool:=((BG (m+1)).all λj=>(BG (m+1)).any λn=>(sq m n (0,0)).1==j)&&(sq m (m+1) (0,0)).1==0
abbrev okM(m:Nat):Prop:=m=7\/m=31\/m=127
def by6{m:Nat}(h:okM m):a98 m=AB:=by rcases h with rfl|rfl|rfl<;>decide+kernel
def sq0(m:Nat):∀n i,(sq m n (i,0)).2=0:=λn i=>by rw[ag9];exact Nat.zero_div _
def a81{m:Nat}(hm:okM m)(x:Nat×Nat)(hx:x.2<2^64)(h1:x.1<m+1)(hj:j<m+1):∃b,b<turns m/\(sq m b x).1=j:=by
 have F:=by6 hm;unfold a98 at F;rw[BI,DY]at F;have at0:∀j,j<m+1->∃n,n<m+1/\sq m n (0,0)=(j,0):=λj hj=>by
  obtain⟨n,hn,e⟩:=any_eq_true.mp (F.1 j (Do.mpr hj));exact⟨n,Do.mp hn,IC (by simpa using e) (sq0 m n 0)⟩
 have back:sq m (m+1) (0,0)=(0,0):=IC (by simpa using F.2) (sq0 m _ 0);have p13:(sq m 13 x).2=0:=by rw[ag9];exact Nat.div_eq_of_lt (Ab hx ∅)
 obtain⟨a,ha,ea⟩:=at0 _ (a71 m 13 x h1);obtain⟨b,hb,eb⟩:=at0 j hj;have e13:sq m 13 x=sq m a (0,0):=by rw[ea];exact IC rfl p13
 by_cases h:a<=b
 ·refine⟨13+(b-a),by unfold turns;lia,?_⟩;rw[M0,e13,<-M0,show a+(b-a)=b by lia,eb]
 ·refine⟨13+(b+(m+1)-a),by unfold turns;lia,?_⟩;rw[M0,e13,<-M0,show a+(b+(m+1)-a)=(m+1)+b by lia,M0,back,eb]
abbrev w4(t:Bq):Nat->Probe->Probe
 |0,p=>p
 |n+1,p=>w4 t n (t.advance p)
theorem aq7(t:Bq):∀a b p,w4 t (a+b) p=w4 t b (w4 t a p)
 |0,b,p=>by rw[Ch];rfl
 |a+1,b,p=>by rw[Kr];exact aq7 t a b _
abbrev blk(m:Nat)(x:Nat×Nat):Probe:={j:=x.1,more:=runEnd m x.1-x.1,i:=x.1,perturb:=x.2,dummy:=AC}
theorem ar7(t:Bq):∀k(p:Probe),p.more=k->w4 t (k+1) p=blk t.mask (leap t.mask p.i p.perturb)\/p.dummy≠AC
 |0,p,h=>by
  by_cases hd:p.dummy=AC
  ·left
   show t.advance p=_;unfold advance;rw[if_neg ⋯];obtain⟨j,m,i,q,d⟩:=p;cases hd;rfl
  ·exact .inr hd
 |k+1,p,h=>by
  have:t.advance p={p with j:=p.j+1,more:=p.more-1}:=by unfold advance;rw[if_pos ⋯]
  have ih:=ar7 t k (t.advance p) (by rw[this];show p.more-1=k;lia);rw[this]at ih;show w4 t (k+1) (t.advance p)=_\/_;rw[this];exact ih
def by1(t:Bq)(x:Nat×Nat):∃c,c<=10/\w4 t c (blk t.mask x)=blk t.mask (leap t.mask x.1 x.2):=by
 refine⟨runEnd t.mask x.1-x.1+1,by unfold runEnd;split<;>lia,?_⟩
 rcases ar7 t _ (blk t.mask x) rfl with h|h
 ·exact h
 ·exact absurd rfl h
theorem a08(t:Bq):∀b x,∃c,c<=10*b/\w4 t c (blk t.mask x)=blk t.mask (sq t.mask b x)
 |0,x=>⟨0,AW _,rfl⟩
 |b+1,x=>by
  obtain⟨c1,h1,e1⟩:=by1 t x;obtain⟨c2,h2,e2⟩:=a08 t b (leap t.mask x.1 x.2);exact⟨c1+c2,⋯,by rw[aq7,e1,e2];rfl⟩
theorem ax2(hd:t.dummies=#[]){h:Int}:∀(fuel k:Nat)(p:Probe),k<fuel->p.dummy=AC->t.slot (w4 t k p).j=.empty->∃j,probe.go t (λ_=>h+1) h fuel p=AA (.empty j AC)/\t.slot j=.empty
 |0,k,p,hk,_,_=>absurd hk (Fn _)
 |fuel+1,k,p,hk,hp,he=>by
  unfold probe.go;cases e:t.slot p.j with
  |empty=>exact⟨p.j,by simp only[hp],e⟩
  |dummy=>
   unfold slot has at e;rw[hd]at e;dsimp only at e
   split at e
   ·cases e
   ·simp at e
  |live i=>
   dsimp only;rw[if_neg (by simp;lia)];cases k with
   |zero=>rw[show(w4 t 0 p).j=p.j from rfl,e]at he;cases he
   |succ k=>
    refine ax2 hd fuel k (t.advance p) ⋯ ?_ he;unfold advance
    split
    ·exact hp
    ·exact hp
def av4(h:Int):bits h<2^64:=by
 have:=EF h (show(0:Int)<2^64 by decide);have:=Ey h (show(2^64:Int)≠0 by decide);unfold bits;lia
def bc8(hs:Ris t.place.toList)(hd:t.dummies=#[])(hm:okM t.mask)(hr:t.place.size<=t.mask)(h:Int):∃j,t.freeSlot h=AA (j,AH)/\t.slot j=.empty:=by
 obtain ⟨j0,_,a2,a3⟩:=as7 t.place.toList 0 hs (λ_ _=>Ao _);rw [Ch,BO] at a2;obtain ⟨b,hb,eb⟩:=a81 hm (bits h % (t.mask + 1),bits h) (av4 h) (Ks _ (Fp _)) (show j0 < t.mask + 1 by lia);obtain ⟨c,hc,ec⟩:=a08 t b (bits h % (t.mask + 1),bits h);obtain ⟨j,e,ej⟩:=ax2 hd (h:=h) (10 * turns t.mask) c (t.probeStart h) ⋯ rfl (by
  show t.slot (w4 t c (blk t.mask (bits h % (t.mask+1),bits h))).j=_;rw[ec];show t.slot (sq t.mask b _).1=_;rw[eb];exact bw5 hs a3 hd)
 refine⟨j,?_,ej⟩;unfold freeSlot probe;rw[e];rfl
end PySem.SetTable
namespace PySem
open SetTable
variable{b:Bool}{t:Bq}{m:Nat}{o:Array (Option Nat)}
structure S0(b:Bool)(es:Array (Int×AG))(t:Bq):Prop where
 ris:Ris t.place.toList
 dum:t.dummies=#[]
 okm:okM t.mask
 sz:t.place.size=es.size
 le:es.size<=t.mask
 pl:t.plain=AB
 ld:t.led=b
def S0.fit{es:Array (Int×AG)}(h:S0 b es t):t.fits es.size=AB:=by
 unfold GY GZ;rw[h.dum,h.sz];have:=h.le;simp;lia
def a69(h:okM m):7<=m:=by rcases h with rfl|rfl|rfl<;>decide
def b74{es:Array (Int×AG)}(S:S0 b es t)(hr:es.size*5<t.mask*3)(h:Int)(x:AG):∃es1 t1,layNew t es h x=(es1,t1,AH,AH)/\S0 b es1 t1/\es1.size=es.size+1/\t1.mask=t.mask/\es1.toList.Perm (es.push (h,x)).toList:=by
 have h7:=a69 S.okm;obtain⟨j,e,ej⟩:=bc8 S.ris S.dum S.okm (by rw[S.sz];lia) h;have s1:(EC es (below t.place j) (h,x)).size=es.size+1:=by
  have:=(insertAt_perm es (below t.place j) (h,x)).length_eq;simpa using this
 have s2:(EC t.place (below t.place j) j).size=t.place.size+1:=by
  have:=(insertAt_perm t.place (below t.place j) j).length_eq;simpa using this
 have hn:has t.dummies j=AH:=by rw[S.dum];unfold has;simp
 have N:S0 b (EC es (below t.place j) (h,x)) (t.put j).1:=by
  refine⟨b10 S.ris ej,?_,S.okm,s2.trans (by rw[S.sz,s1]),by rw[s1];show _<=t.mask;lia,S.pl,S.ld⟩;show(if has t.dummies j=AB then _ else t.dummies)=_;rw[hn];exact S.dum
 refine⟨EC es (below t.place j) (h,x),(t.put j).1,?_,N,s1,rfl,insertAt_perm ..⟩;unfold layNew;rw[e];show(_,(t.put j).1.orStandIn _,AH,!(t.put j).1.fits _)=_;unfold SetTable.orStandIn;rw[N.fit];rfl
theorem ad7{α:Type}{f g:Nat->Option α}:∀l:List Nat,(∀x∈l,f x=g x)->l.filterMap f=l.filterMap g
 |[],_=>rfl
 |x::r,h=>by rw[CT,CT,h x ∎,ad7 r λy hy=>h y (by simp[hy])]
theorem at9{f g:Nat->Option Nat}{j k:Nat}(hf:f j=AC)(hg:g j=AA k)(he:∀x,x≠j->g x=f x):∀l:List Nat,l.Nodup->j∈l->(l.filterMap g).Perm (k::l.filterMap f)
 |[],_,h=>absurd h Ba
 |x::r,hn,h=>by
  obtain⟨n1,n2⟩:=Cs.mp hn
  by_cases e:x=j
  ·subst e;have:r.filterMap g=r.filterMap f:=by
    exact ad7 r λy hy=>he y λz=>n1 (z▸hy)
   rw[Cw hg,ER hf,this]
  ·have hj:j∈r:=(Ae.mp h).resolve_left (λz=>e z.symm);have ih:=at9 hf hg he r n2 hj;cases ex:f x with
   |none=>rw[ER (by rw[he x e,ex]),ER ex];exact ih
   |some v=>
    rw[Cw (by rw[he x e,ex]),Cw ex];exact(ih.cons v).trans (.swap ..)
structure Own(m:Nat)(o:Array (Option Nat))(k:Nat):Prop where
 sz:o.size=m+1
 pm:((BG (m+1)).filterMap λj=>o.getD j AC).Perm (BG k)
def aw3{j:Nat}(h:j<o.size)(a b:Option Nat):o.getD j a=o.getD j b:=by simp[CP,h]
theorem al6{f:Nat->Option Nat}:∀l:List Nat,(∀x∈l,f x≠AC)->(l.filterMap f).length=l.length
 |[],_=>rfl
 |x::r,h=>by
  cases e:f x with
  |none=>exact absurd e (h x ∎)
  |some v=>rw[Cw e,AS,AS,al6 r λy hy=>h y (by simp[hy])]
def Own.free{k:Nat}(h:Own m o k)(hk:k<=m):∃j,j<m+1/\o.getD j (AA 0)=AC:=by
 refine BJ λhc=>?_;have hc:∀j,j<m+1->o.getD j AC≠AC:=λj hj e=>hc ⟨j,hj,by rw[aw3 (by rw[h.sz];exact hj) (AA 0) AC];exact e⟩;have l1:=h.pm.length_eq;rw[al6 _ (λx hx=>hc x (Do.mp hx)),Gi,Gi]at l1;lia
theorem ax8:∀(fuel b:Nat)(x:Nat×Nat),b<fuel->o.getD (sq m b x).1 (AA 0)=AC->∃j,layClean.free m o fuel x.1 x.2=AA j/\o.getD j (AA 0)=AC
 |0,b,x,hb,_=>absurd hb (Fn _)
 |fuel+1,b,x,hb,he=>by
  unfold layClean.free;cases e:(BG (runEnd m x.1+1-x.1)).find? λk=>(o.getD (x.1+k) (AA 0)).isNone with
  |some k=>exact⟨x.1+k,rfl,by have:=List.find?_some e;simpa using this⟩
  |none=>
   cases b with
   |zero=>
    have:=List.find?_eq_none.mp e 0 (Do.mpr (by unfold runEnd;split<;>lia));rw[Nat.add_zero]at this;have he:o.getD x.1 (AA 0)=AC:=he;rw[he]at this;exact absurd rfl this
   |succ b=>exact ax8 fuel b (leap m x.1 x.2) ⋯ he
def Own.set{k j:Nat}(h:Own m o k)(hj:o.getD j (AA 0)=AC):Own m (o.setIfInBounds j (AA k)) (k+1):=by
 have hl:j<o.size:=by
  refine BJ λhc=>?_;have:o.getD j (AA 0)=AA 0:=by simp[CP,hc]
  rw[this]at hj;cases hj
 refine⟨by rw[HG];exact h.sz,?_⟩;refine(at9 (f:=λj=>o.getD j AC) (j:=j) (k:=k) (by rw[aw3 hl AC (AA 0)];exact hj) (by simp[CP,hl]) (λx hx=>by
  simp only[CP,HG]
  split
  ·exact Array.getElem_setIfInBounds_ne _ (DF hx)
  ·rfl) _ List.nodup_range (Do.mpr (by rw[<-h.sz];exact hl))).trans ?_
 refine(h.pm.cons k).trans ?_;rw[List.range_succ];exact(List.perm_append_singleton k _).symm
theorem ar4(hm:okM m):∀(l:List Int)(o:Array (Option Nat))(k:Nat),Own m o k->k+l.length<=m+1->∃o',l.foldl (λacc h=>do
  let(owner,k) <-acc
  let j <-layClean.free m owner (turns m) (bits h % (m+1)) (bits h)
  pure (owner.setIfInBounds j (AA k),k+1)) (AA (o,k))=AA (o',k+l.length)/\Own m o' (k+l.length)
 |[],o,k,h,_=>⟨o,rfl,h⟩
 |x::r,o,k,h,hl=>by
  rw[AS]at hl;obtain⟨j0,h0,e0⟩:=h.free ⋯;obtain⟨b,hb,eb⟩:=a81 hm (bits x % (m+1),bits x) (av4 x) (Ks _ (Fp _)) h0;obtain⟨j,e,ej⟩:=ax8 (o:=o) (turns m) b (bits x % (m+1),bits x) hb (by rw[eb];exact e0);obtain⟨o',e',O'⟩:=ar4 hm r _ (k+1) (h.set ej) ⋯;rw[show k+1+r.length=k+(x::r).length by rw[AS];lia]at e' O';refine⟨o',?_,O'⟩;rw[JB,<-e']
  congr 1
  show(layClean.free m o (turns m) (bits x % (m+1)) (bits x)).bind _=_;rw[e];rfl
def bl5(hm:okM m)(hs:Array Int)(hl:hs.size<=m+1):∃o,layClean m hs=AA o/\Own m o hs.size:=by
 have O:Own m (Array.replicate (m+1) AC) 0:=⟨∎,by
  rw[List.filterMap_eq_nil_iff.mpr λx hx=>?_]
  ·exact .refl _
  ·simp[CP]⟩
 obtain⟨o,e,O'⟩:=ar4 hm hs.toList _ 0 O (by simpa using hl);rw[Ch]at e O';refine⟨o,?_,by simpa using O'⟩;unfold layClean;rw[<-Array.foldl_toList];exact congrArg (Option.map _) e
def bn2{es:Array (Int×AG)}(S:S0 b es t)(h1:t.mask*3<=es.size*5)(h2:(es.size-1)*5<t.mask*3)(h3:es.size<=76):∃es1 t1,relayAll t es (grown es.size)=(es1,t1,AH)/\S0 b es1 t1/\es1.size*5<t1.mask*3/\es1.toList.Perm es.toList:=by
 obtain⟨m,em,hm,hz⟩:∃m,sizeAbove (grown es.size)-1=m/\okM m/\es.size*5<m*3:=by
  rcases S.okm with e|e|e<;>rw[e]at h1 h2
  ·have:es.size=5:=by lia
   rw[this];exact⟨31,∅,.inr (.inl rfl),∅⟩
  ·have:es.size=19:=by lia
   rw[this];exact⟨127,∅,.inr (.inr rfl),∅⟩
  ·lia
 have h7:=a69 hm;obtain⟨o,eo,O⟩:=bl5 hm (es.map (·.1)) (by rw[JE];lia);rw[JE]at O;have e1:t.relaid (es.map (·.1)) (grown es.size)=AA ({mask:=m,place:=(((BG (m+1)).filterMap λj=>(o.getD j AC).map (j,·)).map (·.1)).toArray,dummies:=#[],finger:=t.finger,led:=t.led,moves:=t.movedTo m,plain:=t.plain},(((BG (m+1)).filterMap λj=>(o.getD j AC).map (j,·)).map (·.2)).toArray):=by
  unfold relaid laid;rw[em,eo];rfl
 have e2:(((BG (m+1)).filterMap λj=>(o.getD j AC).map (j,·)).map (·.2))=(BG (m+1)).filterMap λj=>o.getD j AC:=by
  rw[IT];exact ad7 _ λj _=>by cases o.getD j AC<;>rfl
 have ll:=O.pm.length_eq;rw[<-e2,AX,Gi]at ll;have cov:coversAll (((BG (m+1)).filterMap λj=>(o.getD j AC).map (j,·)).map (·.2)).toArray es.size=AB:=by
  unfold coversAll;rw[e2];exact List.isPerm_iff.mpr O.pm
 have P:=relayAll_perm t es (grown es.size);have Fz:=relayAll_fits t es (grown es.size);have ris:Ris (((BG (m+1)).filterMap λj=>(o.getD j AC).map (j,·)).map (·.1)):=by
  rw[IT];refine KU _ (R:=(·<·)) ?_ List.pairwise_lt_range;intro a a' ha x hx y hy;cases e:o.getD a AC with
  |none=>rw[e]at hx;cases hx
  |some v=>
   cases e':o.getD a' AC with
   |none=>rw[e']at hy;cases hy
   |some v'=>rw[e]at hx;rw[e']at hy;cases hx;cases hy;exact ha
 unfold relayAll at P Fz ⊢;rw[e1]at P Fz ⊢;dsimp only at P Fz ⊢;rw[cov]at P Fz ⊢;have szO:∀x,((((BG (m+1)).filterMap λj=>(o.getD j AC).map (j,·)).map (·.2)).toArray.filterMap λi=>es[i]?)=x->x.toList.Perm es.toList->x.size=es.size:=λx _ p=>by simpa using p.length_eq
 have pm:(((((BG (m+1)).filterMap λj=>(o.getD j AC).map (j,·)).map (·.2)).toArray.filterMap λi=>es[i]?)).toList.Perm es.toList:=by
  rw[Array.toList_filterMap,e2];exact(O.pm.filterMap _).trans (by rw[filterMap_getElem?_range])
 have sz:=szO _ rfl pm;have ft:GY {mask:=m,place:=(((BG (m+1)).filterMap λj=>(o.getD j AC).map (j,·)).map (·.1)).toArray,dummies:=#[],finger:=t.finger,led:=t.led,moves:=t.movedTo m,plain:=t.plain} es.size=AB:=by
  unfold GY GZ;simp only[Aa,AX,ll];simp;lia
 rw[sz]at P Fz ⊢;rw[ft]at P Fz ⊢;refine⟨_,_,rfl,⟨ris,rfl,hm,by rw[sz];simp only[Aa,AX,ll],by rw[sz];show _<=m;lia,S.pl,S.ld⟩,by rw[sz];exact hz,pm⟩
end PySem
namespace PySem
open PySem.W PyProof.Rows SetTable
variable{h:Heap}{a:AI}{ep:Nat}{t:Bq}
@[reducible]noncomputable def S8(es:Array (Int×AG))(ep:Nat)(t:Bq):Obj:={cls:=.type "set",dict:=AC,data:=.set es ep t}
@[reducible]noncomputable def J0(w:Aq):Bool:=!(w.params.followText "set-order")
def ad4{l l':List AG}(p:l'.Perm l):∀{ms},CL l ms->∃ms',CL l' ms'/\ms'.Perm ms:=by
 induction p with
 |nil=>exact λh=>⟨_,h,.refl _⟩
 |cons x p ih=>
  intro ms h;cases h with
  |cons n t r=>obtain⟨ms',a,b⟩:=ih r;exact⟨n::ms',.cons n t a,b.cons n⟩
 |swap x y l=>
  intro ms h;cases h with
  |cons n t r=>
   cases r with
   |cons m u r=>exact⟨m::n::_,.cons m u (.cons n t r),.swap ..⟩
 |trans _ _ ih1 ih2=>
  intro ms h;obtain⟨m1,a,b⟩:=ih2 h;obtain⟨m2,c,d⟩:=ih1 a;exact⟨m2,c,d.trans b⟩
theorem at5{prog:Ah}{w:Aq}{k:Int}:∀{l:List AG}{ms:List Int},CL l ms->(k∈ms↔∃v∈l,(En prog w).is k v=AB)
 |_,_,.nil=>by simp
 |_,_,.cons n t r=>by
  rw[Ae,at5 (prog:=prog) (w:=w) r];constructor
  ·rintro(rfl|⟨v,h1,h2⟩)
   ·exact⟨_,Bl,Jd _ _ _ _⟩
   ·exact⟨v,BA _ h1,h2⟩
  ·rintro⟨v,h1,h2⟩
   rcases Ae.mp h1 with rfl|h1
   ·have h2:FD k (.int n t)=AB:=h2;obtain⟨t',e⟩:=EI h2;cases e;exact .inl rfl
   ·exact .inr ⟨v,h1,h2⟩
theorem as4{k:Int}{tk:Tok}:∀{l:List AG}{ms:List Int},CL l ms->CL (l++[.int k tk]) (ms++[k])
 |_,_,.nil=>.cons _ _ .nil
 |_,_,.cons n t r=>.cons n t (as4 r)
def ao6{l:List Int}:∀{u:List Int},l.Nodup->(∀x∈l,x∈u)->l.length<=u.length:=by
 induction l with
 |nil=>intros;exact Ao _
 |cons x r ih=>
  intro u hn h;obtain⟨n1,n2⟩:=Cs.mp hn;have hx:=h x ∎;have:=ih (u:=u.erase x) n2 λy hy=>(List.mem_erase_of_ne (λe:y=x=>n1 (e▸hy))).mpr (h y (by simp[hy]));rw[List.length_erase_of_mem hx]at this;have:=List.length_pos_of_mem hx;rw[AS];lia
section
variable {prog:Ah} {w:Aq} {A:BP} {E:AG->AL->Prop} {s:AL}
structure SetI(prog:Ah)(w:Aq)(h:Heap)(a:AI)(es:Array (Int×AG))(ep:Nat)(t:Bq)(ms:List Int):Prop where
 at_:h.get? a=AA (S8 es ep t)
 s0:S0 (J0 w) es t
 rm:es.size*5<t.mask*3
 el:ElemsOf (En prog w) es.toList
 im:CL (es.toList.map (·.2)) ms
 nd:ms.Nodup
theorem SetI.size{es:Array (Int×AG)}{ms:List Int}(I:SetI prog w h a es ep t ms):es.size=ms.length:=by
 have:=Ew I.im;rw[AX,BO]at this;exact this
def SetI.up{h':Heap}{es:Array (Int×AG)}{ms:List Int}(I:SetI prog w h a es ep t ms)(e:∀o,h.get? a=AA o->h'.get? a=AA o):SetI prog w h' a es ep t ms:=⟨e _ I.at_,I.s0,I.rm,I.el,I.im,I.nd⟩
def a06{es es1:Array (Int×AG)}{t1:Bq}(ho:h.get? a=AA (S8 es ep t)):(h.update a (Ik es1 t1)).get? a=AA (S8 es1 (ep+1) t1):=Dr (Ik es1 t1) ho rfl
def cr5{es:Array (Int×AG)}{ms:List Int}{k:Int}{tk:Tok}{Q:Bool->AL->Prop}(I:SetI prog w s.heap a es ep t ms)(hb:ms.length<70)
  (h:∀r h' es' ep' t' ms',Heap.SameBut a s.heap h'->SetI prog w h' a es' ep' t' ms'->(∀x,x∈ms'↔x∈ms\/x=k)->Q r {s with heap:=h'}) :
  AV (model prog w) A (setAddHashed a (.int k tk) ((En prog w).hash k)) Q E s:=by
 have hkey:(En prog w).is k (.int k tk)=AB:=Jd _ _ _ _;have hsz:=I.size;have hf:=I.s0.fit;unfold setAddHashed setAddHashedIn;refine CA (AD (Er I.at_ rfl hf ?_));dsimp only;rw[byScan_of rfl (by rw[hsz];exact Fm hb ∅) I.el];simp only[↓reduceIte];unfold setAddByScan;refine AD ?_;refine AD (HZ ?_);refine AD (wpAny_setScan_of hkey I.at_ rfl hf I.el ?_);have mem:k∈ms↔∃e∈es.toList,(En prog w).is k e.2=AB:=by
  rw[at5 (prog:=prog) (w:=w) I.im];exact⟨λ⟨v,h1,h2⟩=>by obtain⟨e,he,rfl⟩:=Et.mp h1;exact⟨e,he,h2⟩,λ⟨e,h1,h2⟩=>⟨_,List.mem_map_of_mem h1,h2⟩⟩
 cases hr:Je (λe=>(En prog w).is k e.2) es.toList with
 |some j=>
  dsimp only;obtain⟨hj,hpj,_⟩:=List.findIdx?_eq_some_iff_getElem.mp hr;have hk:k∈ms:=mem.mpr ⟨_,ED hj,hpj⟩;have e:s={s with heap:=s.heap}:=by cases s;rfl
  refine AJ (AJ ?_);rw[e];exact h _ s.heap es ep t ms (Heap.SameBut.refl a s.heap) I λx=>⟨.inl,λz=>z.elim id (λz=>z▸hk)⟩
 |none=>
  dsimp only;have hk:k∉ms:=λz=>by
   obtain⟨e,he,hp⟩:=mem.mp z;have:=List.findIdx?_eq_none_iff.mp hr e he;rw[hp]at this;exact Bool.noConfusion this
  obtain⟨es1,t1,hL,S1,z1,m1,p1⟩:=b74 I.s0 I.rm ((En prog w).hash k) (.int k tk);rw[hL];dsimp only;rw[IU]at p1;have el1:ElemsOf (En prog w) es1.toList:=(I.el.push hkey rfl).perm p1;have hm1:∃ms1,CL (es1.toList.map (·.2)) ms1/\ms1.Perm (ms++[k]):=by
   refine ad4 (p1.map _) ?_;rw[Al];exact as4 I.im
  obtain⟨ms1,i1,q1⟩:=hm1;have nd1:ms1.Nodup:=q1.nodup_iff.mpr (List.nodup_append.mpr ⟨I.nd,∎,λa ha b hb e=>hk (by rw[BQ]at hb;subst e;subst hb;exact ha)⟩);have mm1:∀x,x∈ms1↔x∈ms\/x=k:=λx=>by rw[q1.mem_iff,BR,BQ]
  refine AD (AJ ?_);rw[if_pos S1.pl];refine AD ?_;rw[hashByValue_scannable 8 rfl];refine AJ ?_;rw[if_pos (show plainKind (Da k tk)=AB from rfl)];refine AD (Jt I.at_ rfl ?_ (by rw[z1,hsz];exact Ay (Iu (Fm hb (by decide:70<100))) ∅));have sb:=Heap.SameBut.update s.heap a (Ik es1 t1);have a1:=a06 (es1:=es1) (t1:=t1) I.at_;have fl:t1.fill=es1.size:=by unfold GZ;rw[S1.dum,S1.sz];rfl
  by_cases hf5:t1.mask*3<=es1.size*5
  ·have tf:t1.tooFull=AB:=by unfold IE;rw[fl];simpa using hf5
   rw[tf];simp only[JR,BU,↓reduceIte];have rm:=I.rm;obtain⟨es2,t2,hR,S2,r2,p2⟩:=bn2 S1 hf5 (by rw[z1,m1];simpa using rm) ⋯;rw[hR];dsimp only;refine AD (AJ ?_);have z2:es2.size=es1.size:=by simpa using p2.length_eq
   refine AD (Jt (s:={s with heap:=_}) a1 rfl ?_ (by rw[z2,z1,hsz];exact Ay (Iu (Fm hb (by decide:70<100))) ∅));obtain⟨ms2,i2,q2⟩:=ad4 (p2.map (·.2)) i1;exact AJ (AJ (h _ _ es2 _ t2 ms2 (sb.trans (Heap.SameBut.update _ a _)) ⟨a06 a1,S2,r2,el1.perm p2,i2,q2.nodup_iff.mpr nd1⟩ λx=>by rw[q2.mem_iff,mm1]))
  ·have tf:t1.tooFull=AH:=by unfold IE;rw[fl];simpa using hf5
   rw[tf];simp only[JR,Gv,BD,↓reduceIte];exact AJ (AJ (h _ _ es1 _ t1 ms1 sb ⟨a1,S1,⋯,el1,i1,nd1⟩ mm1))
def ca3{R:Ia->AL->Prop}{I:AI}{fp wr:List AI}{n:Nat}{P:Nat->AG->Prop}{St:Nat->Heap->Prop}(W:Walks prog w A.in1 I fp wr n P St)(S:AI)(hSf:S∉fp){ns u:List Int}(hP:∀i v,P i v->∃k tk,v=.int k tk/\ns[i]?=AA k)(hu:∀x∈ns,x∈u)(hl:u.length<64)(hn:n=ns.length):
  ∀(k i:Nat)(s:AL)(es:Array (Int×AG))(ep:Nat)(t:Bq)(ms:List Int),n-i=k->i<=n->St i s.heap->SetI prog w s.heap S es ep t ms->(∀x,x∈ms↔x∈ns.take i) ->
   (∀h' tk es ep t ms,(∀b o,b∉S::wr->s.heap.get? b=AA o->h'.get? b=AA o)->SetI prog w h' S es ep t ms->(∀x,x∈ms↔x∈ns)->R (.ok (.ret .none)) {s with heap:=h',toks:=tk}) ->
   Dw (model prog w) A (.builtin "set.update.loop" ⟨[.ref S,.ref I],[]⟩) R s:=by
 have hSw:S∉wr:=λh=>hSf (W.sub _ h);intro k
 induction k with
 |zero=>
  intro i s es ep t ms hk hi hst hS hm' hR;have hin:i=n:=by lia
  subst hin;refine DP F.entry_set_update_loop ?_;rw[Ce F.plain_set_update_loop _];show AV _ A.in1 (GR (.ref I)>>=_) _ _ s;refine AD (W.done s _ _ hst λh' tk hm=>?_);show AV _ A.in1 (ret Bh) _ _ _;exact AJ (hR h' tk es ep t ms (λb o hb e=>hm b o (λz=>hb (BA _ z)) e) (hS.up λo e=>hm S _ hSw e) (λx=>by rw[hm' x,DQ ⋯]))
 |succ k ih=>
  intro i s es ep t ms hk hi hst hS hm' hR;have hlt:i<n:=by lia
  refine DP F.entry_set_update_loop ?_;rw[Ce F.plain_set_update_loop _];show AV _ A.in1 (GR (.ref I)>>=_) _ _ s;refine AD (W.item i s _ _ hlt hst λv h1 tk hPv hst' hm=>?_);obtain⟨k1,t1,rfl,hk1⟩:=hP i v hPv;have hS':=hS.up (h':=h1) λo e=>hm S _ hSw e;show AV _ A.in1 (holding [Da k1 t1] (setAdd S (.int k1 t1))>>=_) _ _ _;refine AD (CA ?_);unfold setAdd;refine CA ?_;refine AD ((En prog w).pyHash (k:=k1) (Jd _ _ _ _) ?_);have hlm:ms.length<70:=Di (ao6 hS.nd λx hx=>hu x (List.mem_of_mem_take ((hm' x).mp hx))) ⋯;refine cr5 (s:={s with heap:=h1,toks:=_}) hS' hlm λr h2 es2 ep2 t2 ms2 sb I2 mm=>?_;refine AJ ⟨IK F.plain_set_update_loop _,ih (i+1) _ es2 ep2 t2 ms2 ⋯ hlt (W.frame _ _ _ hst' λb hb o e=>?_) I2 (λx=>?_) λh' tk' es' ep' t' ms' hk' hS'' hm''=>?_⟩
  ·show h2.get? b=AA o;rw[sb.2 b (λh:b=S=>hSf (by rw[<-h];exact hb))];exact e
  ·rw[mm x,hm' x,List.take_add_one,hk1,BR];simp
  ·refine hR h' tk' es' ep' t' ms' (λb o hb e=>hk' b o hb ?_) hS'' hm'';show h2.get? b=AA o;rw[sb.2 b (λh:b=S=>hb (by rw[h];exact Bl))];exact hm b o (λz=>hb (BA _ z)) e
end
end PySem
namespace PySem
open PySem.W PyProof.Rows SetTable
section
variable {prog:Ah} {w:Aq} {A:BP} {E:AG->AL->Prop} {s:AL}
def bb5(a:AG){Q₁:AG->AL->Prop}(h:Q₁ (.ref s.heap.objs.size) {s with heap:=s.heap.push {cls:=.type "set",dict:=AC,data:=.set #[] 0 (.fresh 0 0 (J0 w))}}):
  Dw (model prog w) A (.call (.builtin "set.__new__") ⟨[.type "set",a],[]⟩) (wants Q₁ E) s:=by
 refine HP ?_;show AV _ A.in1 (do checkBuiltinCall "set.__new__" ⟨[.type "set",a],[]⟩;again (.builtin "set.__new__" ⟨[.type "set",a],[]⟩)) _ _ s;refine AD (JF (F.newCall_set_1 a) (AJ ⟨IK F.plain_set_new _,DP F.entry_set_new ?_⟩));rw[Ce F.plain_set_new _];unfold DR.«set.__new__» JG;have hsub:=sub_set_self;obtain⟨hp,g,d,tk,os⟩:=s;dsimp only
 wp_walk
 refine Dt (AJ ?_);dsimp only;simp only[newObj];refine AD (wpAny_alloc (AJ ?_));exact AJ h
def bf5{l:AI}{items:Array AG}{ns u:List Int}{Q:AG->AL->Prop}
  (hh:A.handled=AC) (hl:s.heap.IsList l items) (hI:CL items.toList ns) (hu:∀x∈ns,x∈u) (hl64:u.length<64)
  (h:∀(h':Heap)(tk:Nat)es ep t ms,SetI prog w h' s.heap.objs.size es ep t ms->(∀x,x∈ms↔x∈ns) ->
   (∀b o,b<s.heap.objs.size->s.heap.get? b=AA o->h'.get? b=AA o)->Q (.ref s.heap.objs.size) {s with heap:=h',toks:=tk}) :
  AV (model prog w) A (call (.type "set") [.ref l]) Q E s:=by
 obtain⟨c,tl,hmro⟩:=F.called_set.mro;have hmade:=F.called_set.made;have hsub:=F.called_set.sub;refine JZ (HP ?_);show AV _ _ (callAny (.type "set") _) _ _ _;refine AJ ⟨Code.quiet_builtin _ (by decide+kernel),DP F.entry_type_call ?_⟩;rw[Around.under_plain (weight_type_call_type "set" [.ref l] []) rfl];have h1:=F.called_set.notType;have h2:=F.called_set.canCreate;have hct:=F.typeCall_set_1 (.ref l)
 repeat (any_goals (first|assumption|wp_step))
 refine Dd (bb5 (.ref l) (E:=E) (Q₁:=λobj s₁=>obj=.ref s.heap.objs.size/\s₁={s with heap:=s.heap.push {cls:=.type "set",dict:=AC,data:=.set #[] 0 (.fresh 0 0 (J0 w))}}) ⟨rfl,rfl⟩) λr s₁ hr=>?_;cases r with
 |error e=>exact hr
 |ok fl=>
  cases fl with
  |ret obj=>
   obtain⟨rfl,rfl⟩:=hr;generalize hT0:J0 w=led at *;have hS:(s.heap.push {cls:=.type "set",dict:=AC,data:=.set #[] 0 (.fresh 0 0 led)}).get? s.heap.objs.size=AA {cls:=.type "set",dict:=AC,data:=.set #[] 0 (.fresh 0 0 led)}:=Ai _ rfl;have hT:Shared.TypeIs {s with heap:=s.heap.push {cls:=.type "set",dict:=AC,data:=.set #[] 0 (.fresh 0 0 led)}} (.ref s.heap.objs.size) "set":=⟨_,hS,rfl⟩;have hli:=F.called_set.init.lookup;have hbi:=F.called_set.init.bind (.ref s.heap.objs.size)
   repeat (any_goals (first|assumption|wp_step))
   refine Dd (codeAny_call_builtin (R:=wants (λr s₂=>r=.none/\∃h' tk es ep t ms,s₂={s with heap:=h',toks:=tk} /\
     SetI prog w h' s.heap.objs.size es ep t ms/\(∀x,x∈ms↔x∈ns) /\
     (∀b o,b<s.heap.objs.size->s.heap.get? b=AA o->h'.get? b=AA o)) E) F.called_set.init.plain F.entry_set_init (check_set_init_1 hT ?_)) λr₂ s₂ hr₂=>?_
   ·obtain⟨ol,hol,hcl,nl,hdl⟩:=hl;obtain⟨ocls,odict,odata,oslots⟩:=ol;simp only at hcl hdl;subst hcl;subst hdl;have hol':(s.heap.push {cls:=.type "set",dict:=AC,data:=.set #[] 0 (.fresh 0 0 led)}).get? l=AA {cls:=.type "list",dict:=odict,data:=.seq items nl,slots:=oslots}:=AQ _ hol;have hsls:=F.sub_list_set;have hslf:=F.sub_list_frozenset;have hne:(Db "list"==Db "dict")=AH:=by decide
    have hl1:(s.heap.push {cls:=.type "set",dict:=AC,data:=.set #[] 0 (.fresh 0 0 led)}).IsList l items:=⟨_,hol',rfl,nl,rfl⟩;unfold DR.«set.__init__» noKeywords JH;generalize hPI:Hh=PI
    wp_walk
    subst hPI;refine Gj hl1 ?_;refine AD (Kt ?_);have hlS:l<s.heap.objs.size:=Ar hol;have hh3:A.in1.in1.in1.handled=AC:=by simp[hh]
    have hneI:l≠(s.heap.push {cls:=.type "set",dict:=AC,data:=.set #[] 0 (.fresh 0 0 led)}).objs.size:=by
     rw[Dp];exact BE (Dy hlS)
    have hSf:s.heap.objs.size∉[(s.heap.push {cls:=.type "set",dict:=AC,data:=.set #[] 0 (.fresh 0 0 led)}).objs.size,l]:=by
     rw[Dp];simp only[Ae,BQ,Ba,or_false,not_or];exact⟨BE (Cy _),Hg hlS⟩
    refine ca3 (KW hh3 _ l hneI items) s.heap.objs.size hSf (ns:=ns) (u:=u) (λi v e=>?hP) hu hl64 (by rw[<-BO];exact Ew hI) (items.size-0) 0 _ #[] 0 (.fresh 0 0 led) [] ⋯ (Ao _)
     ⟨⟨_,Ai _ rfl,rfl,rfl⟩,(hl1.push _)⟩ ?hS0 (λx=>∎) ?hR
    case hP=>
     obtain⟨tk,rfl⟩:=IntsAre.int_at hI i v (by rw[CZ];exact e);refine⟨_,tk,rfl,?_⟩;have hi:i<ns.length:=by rw[<-Ew hI,BO];exact(Gh.mp e).1
     rw[AM hi,List.getD_eq_getElem?_getD,AM hi];rfl
    case hS0=>
     exact⟨AQ _ hS,⟨.nil,rfl,.inl rfl,rfl,Ao _,rfl,hT0.symm⟩,by show 0*5<7*3;decide,λe he=>absurd he Ba,.nil,List.nodup_nil⟩
    case hR=>
     intro h' tk' es' ep' t' ms' hm hS' hm';show AV _ _ _ _ _ _;refine AJ ?_;show AV _ _ (ret Bh) _ _ _;refine AJ ⟨rfl,h',tk',es',ep',t',ms',rfl,hS',hm',λb o hb e=>?_⟩;have hb1:b≠s.heap.objs.size:=BE hb;have hb2:b≠(s.heap.push {cls:=.type "set",dict:=AC,data:=.set #[] 0 (.fresh 0 0 led)}).objs.size:=by
      rw[Dp];exact BE (Dy hb)
     exact hm b o (by simp only[Ae,BQ,Ba,or_false,not_or];exact⟨hb1,hb2⟩) (AQ _ (AQ _ e))
   ·cases r₂ with
    |error e=>exact hr₂
    |ok fl₂=>
     cases fl₂ with
     |ret r=>
      obtain⟨rfl,h',tk,es',ep',t',ms',rfl,hS',hm',hk'⟩:=hr₂
      repeat (any_goals (first|assumption|wp_step))
      exact h _ _ _ _ _ _ hS' hm' hk'
     |_=>exact hr₂.elim
  |_=>exact hr.elim
end
end PySem
namespace L2
open PySem PySem.Spec PyProof.Rows
variable{s:AL}{scope:BB}{env:Env}{cells:List (Str×AI)}{x:Str}{X:Cx}{Nc:List Str}{C:AI}{pins:List (AI×Obj)}{σ:St}{H:Hp}
def bc5{prog}{w}{A}{R:Ia->AL->Prop}{elt target iter}{ifs:List AR}{pos}{it acc}(I:Nat->AL->Prop)
  (turn:∀n s,I n s->AV (model prog w) A (GR it) (λr s₁=>match r with
   |none=>R (.ok .next) s₁
   |some v=>AV (model prog w) A (FN target it v) (λ_ s₁'=>AV (model prog w) A (assign target env v) (λ_ s₂=>
     AV (model prog w) A (forIn ifs AB λc r=>if r=AB then do let ok <-Hf c env (eval c env);pure (By ok)else pure (By r)) (λok s₃=>
      if ok=AB then AV (model prog w) A (eval elt env) (λx s₄=>
       AV (model prog w) A (call (.builtin "list.append") [acc,x]) (λ_ s₅=>∃m,m<n/\I m s₅) (λ_ _=>False) s₄) (λ_ _=>False) s₃
      else ∃m,m<n/\I m s₃) (λ_ _=>False) s₂) (λ_ _=>False) s₁') (λ_ _=>False) s₁) (λ_ _=>False) s)
  (n:Nat) (h:I n s) :
  Dw (model prog w) A (.compLoop (.ListComp elt [⟨target,iter,ifs,0⟩] scope pos) 0 it acc env) R s:=by
 refine codeAny_loop rfl I (λn s hI=>?_) n h;refine wpAny_noted ?_;rw[compTurn_list];refine AD (II (AD (Bf (turn n s hI) (λr s₁ h₁=>?_) λ_ _ h'=>h'.elim)));cases r with
 |none=>exact AJ h₁
 |some v=>
  refine AD (Bf h₁ (λ_ s₁' h₁'=>?_) λ_ _ h'=>h'.elim);refine AD (Bf h₁' (λ_ s₂ h₂=>AD (Bf h₂ (λok s₃ h₃=>?_) λ_ _ h'=>h'.elim)) λ_ _ h'=>h'.elim);cases ok with
  |false=>exact AJ ⟨rfl,h₃⟩
  |true=>
   exact AD (AD (Bf h₃ (λx s₄ h₄=>AD (Bf h₄ (λ_ s₅ h₅=>AJ (AJ ⟨rfl,h₅⟩)) λ_ _ h'=>h'.elim)) λ_ _ h'=>h'.elim))
abbrev m8(cells:List (Str×AI)):List (Str×Fj)->List (Str×AI)->List (Str×AI)
 |[],acc=>acc
 |(n,k)::r,acc=>m8 cells r (if k==.free then(match cells.lookup n with|some a=>(n,a)::acc|none=>acc)else acc)
theorem ac7:∀(names:List (Str×Fj))(acc:List (Str×AI)),(∀x∈names,x.2=.free->(env.cells.lookup x.1).isSome=AB) ->
  (forIn names acc λx r=>match x with
   |(name,kind)=>if(kind==Au)=AB then do let a <-Ku env name;pure (By ((name,a)::r))else pure (By r):Sem (List (Str×AI)))=pure (m8 env.cells names acc)
 |[],acc,_=>rfl
 |(n,k)::r,acc,h=>by
  have hr:∀x∈r,x.2=.free->(env.cells.lookup x.1).isSome=AB:=λx hx=>h x (BA _ hx);rw[List.forIn_cons];cases hk:(k==Au)with
  |false=>
   simp only[hk,BD,if_false,pure_bind];rw[ac7 r acc hr];simp only[m8,hk,BD,if_false]
  |true=>
   have hf:k=.free:=by simpa using hk
   obtain⟨a,ha⟩:=BN.mp (h (n,k) Bl hf);have hc:Ku env n=pure a:=by unfold Ku;rw[ha]
   simp only[hk,if_true,hc,pure_bind];rw[ac7 r _ hr];simp only[m8,hk,if_true,ha]
def ac5{env}(h:∀x∈scope.names,x.2=.free->(env.cells.lookup x.1).isSome=AB):Ho scope env=pure (m8 env.cells scope.names []):=by
 have e:=ac7 scope.names [] h;show(forIn scope.names [] λx r=>match x with
   |(name,kind)=>if(kind==Au)=AB then do let a <-Ku env name;pure (By ((name,a)::r))else pure (By r):Sem (List (Str×AI)))>>=pure=_
 rw[e];rfl
theorem at6:∀{names}{acc}{x}{c},(x,c)∈m8 cells names acc->(x,c)∈acc\/cells.lookup x=AA c/\(x,Au)∈names
 |[],acc,x,c,h=>.inl h
 |(n,k)::r,acc,x,c,h=>by
  unfold m8 at h
  rcases at6 h with h1|⟨h1,h2⟩
  ·cases hk:k==Au with
   |false=>simp_all
   |true=>
    have hf:=by simpa using hk
    subst hf;cases hc:cells.lookup n with
    |none=>rw[hc]at h1;exact .inl h1
    |some a=>
     rw[hc]at h1
     rcases Ae.mp h1 with e|e
     ·simp_all
     ·exact .inl e
  ·simp_all
theorem as5:∀{names}{acc}{x}{c},cells.lookup x=AA c->(x,Au)∈names\/(x,c)∈acc->(x,c)∈m8 cells names acc
 |[],acc,x,c,_,h=>by
  rcases h with h|h
  ·cases h
  ·exact h
 |(n,k)::r,acc,x,c,hc,h=>by
  unfold m8;refine as5 hc ?_
  rcases h with h|h
  ·rcases Ae.mp h with e|e
   ·simp_all
   ·exact .inl e
  ·refine .inr ?_
   split
   ·split
    ·exact BA _ h
    ·exact h
   ·exact h
def ac8{α}{l:List (Str×α)}{a}(h:l.lookup x=AA a):=PySem.mem_of_lookup h
theorem an2{α:Type}:∀{l:List (Str×α)}{x}{a},(x,a)∈l->∃b,l.lookup x=AA b
 |[],_,_,h=>by cases h
 |(y,b)::r,x,a,h=>by
  rw[EE];cases e:x==y with
  |true=>exact⟨b,rfl⟩
  |false=>
   rcases Ae.mp h with z|z
   ·grind
   ·exact an2 z
def C6{names}{c}(h:(m8 cells names []).lookup x=AA c):cells.lookup x=AA c/\(x,Au)∈names:=by
 rcases at6 (ac8 h)with z|z
 ·cases z
 ·exact z
def U7{names}{c}(h:cells.lookup x=AA c)(hm:(x,Au)∈names):(m8 cells names []).lookup x=AA c:=by
 obtain⟨b,hb⟩:=an2 (as5 h (.inl hm));have:=(C6 hb).1;grind
structure CompScope(X:Cx)(scope:BB)(Nc:List Str)(fr:List Nat)(k:Nat):Prop where
 kind:scope.kind=.function
 nocell:∀y∈scope.names,y.2≠.cell
 names:∀y∈scope.names,y.2=.local->scope.names.lookup y.1=AA .local
 frees:∀y∈scope.names,y.2=.free->X.env.scope.names.lookup y.1=AA .cell\/X.env.scope.names.lookup y.1=AA .free
 uniq:∀y∈scope.names,y.2=.free->(y.1,NameKind.local)∉scope.names
 nd:Nc.Nodup
 len:Nc.length=fr.length+k
 fre:∀i x,Nc[i]?=AA x->i<fr.length->∃j,fr[i]?=AA j/\X.N[j]?=AA x/\(x,Au)∈scope.names
abbrev y6(fr:List Nat)(k:Nat)(σ:St):St:=(fr.map λj=>(σ[j]?).join)++AY k AC
def bc6(h:(relabel scope env).names.lookup x=AA .cell\/(relabel scope env).names.lookup x=AA .free)(hc:∀y∈scope.names,y.2≠.cell):(x,Au)∈scope.names:=by
 have go:∀k,(relabel scope env).names.lookup x=AA k->k=.cell\/k=.free->(x,Au)∈scope.names:=by
  intro k hk hkk;have hm:=ac8 hk;obtain⟨⟨n,k'⟩,h1,h2⟩:=Et.mp hm;dsimp only at h2
  split at h2
  ·grind
  ·grind
 rcases h with h|h
 ·exact go _ h (.inl rfl)
 ·exact go _ h (.inr rfl)
def bd9:∀{k},(relabel scope env).names.lookup x=AA k->∃k',(x,k')∈scope.names/\(k=k'\/k'=.free/\k=.cell):=by
 intro k hk;have hm:=ac8 hk;obtain⟨⟨n,k'⟩,h1,h2⟩:=Et.mp hm;dsimp only at h2
 split at h2
 ·rename_i hcond;cases h2;refine⟨_,h1,.inr ⟨?_,rfl⟩⟩;simp at hcond;exact hcond.1.1
 ·cases h2;exact⟨_,h1,.inl rfl⟩
abbrev Cx.comp(X:Cx)(scope:BB)(Nc:List Str)(C:AI)(fp:List AI)(pins:List (AI×Obj))(s:AL)(H:Hp):Cx:=
 {X with N:=Nc,s₀:=s,H₀:=H,env:=Kv scope (m8 X.env.cells scope.names []) C X.env,outer:=X.stack,stack:=X.stack,ex:=fp,fn:=λ_=>AH,pn:=X.pn++pins,xe:=λ_ _=>False,ow:=λ_=>AH}
def Cx.comp_ok{fr:List Nat}{k:Nat}{fp:List AI}(S:CompScope X scope Nc fr k)(I:Inv X pins σ H s)
  (hC:s.heap.objs.size<=C) (hf:∀b∈fp,t7 X pins H b) (hlt:∀b∈fp,b<s.heap.objs.size):(X.comp scope Nc C fp pins s H).Ok where
 mod:=I.ok.mod
 kind:=S.kind
 glob:=I.ok.glob
 blt:=I.ok.blt
 above:=hC
 inj:=λx y c h1 h2=>I.ok.inj x y c (C6 h1).1 (C6 h2).1
 has:=λx h=>by
  have hm:=bc6 h S.nocell;have hx:=S.frees _ hm rfl;obtain⟨c,hc⟩:=I.ok.has x hx;exact⟨c,U7 hc hm⟩
 cab:=λx c h _=>h.elim (λz=>nomatch z) λz=>nomatch z
 hd:=I.ok.hd
 frames:=I.ok.frames
 stk:=.inl rfl
 exf:=λb hb=>⟨λz=>by have h1:=hlt b hb;have h2:b=C:=z;rw[h2]at h1;exact absurd h1 (Kw.mpr hC),λx c h=>(hf b hb).2.2.2.2.1 x c (C6 h).1⟩
 bs:=I.bs
 bsz:=Ay I.ok.bsz I.sz
 noex:=λb o e hb=>by
  obtain⟨h0,h1,h2,h3,h4,h5⟩:=hf b hb
  rcases h3 with z|z
  ·exact I.ok.noex b o e z
  ·have:=(I.ok.bs b o e).1;exact absurd (Ab (Ar this) z) (DW _)
 exfs:=λb hb z=>by
  obtain⟨h0,h1,h2,_⟩:=hf b hb
  rcases Ae.mp (I.stkSub b z)with e|e
  ·exact h1 e
  ·exact h2 e
 funs:=I.stack
 frf:=I.stkFree
def bf3{fr:List Nat}{k:Nat}{fp:List AI}{h1:Heap}{tk:Nat}(S:CompScope X scope Nc fr k)(I:Inv X pins σ H s)
  (hC:s.heap.objs.size<=C) (hf:∀b∈fp,t7 X pins H b) (hlt:∀b∈fp,b<s.heap.objs.size) (hk:∀b o,s.heap.get? b=AA o->h1.get? b=AA o) (hn:h1.Ns C (λ_=>AC)) :
  Inv (X.comp scope Nc C fp pins s H) [] (y6 fr k σ) H {s with heap:=h1,toks:=tk}:=by
 have hfC:H C=AC:=I.hok.fresh hC;refine⟨Cx.comp_ok S I hC hf hlt,rfl,I.bare,Un.kept hk,⟨_,hn,λi x v e1 e2 e3=>?_⟩,λx c e=>?_,hfC,λx c e=>(I.freeC x c (C6 e).1).imp id λz=>⟨rfl,z.2⟩,λp hp=>?_,I.hok.kept hk,?_⟩
 ·have hi:i<fr.length:=by
   unfold y6 at e2
   by_cases hi:i<fr.length
   ·exact hi
   ·rw[Ad (by simpa using hi),DU]at e2
    split at e2<;>cases e2
  obtain⟨j,hj,hN,hm⟩:=S.fre i x e1 hi;have e2':σ[j]?=AA (AA v):=by
   unfold y6 at e2;rw[Aj (by simpa using hi),Aw,hj]at e2;simp only[Eg,Ct]at e2;cases q:σ[j]? with
   |none=>rw[q]at e2;cases e2
   |some o=>rw[q]at e2;exact congrArg AA e2
  obtain⟨m,hns,hl⟩:=I.loc;have hvis:Vis X.env.scope x:=by
   rcases S.frees _ hm rfl with z|z
   ·exact .inr (.inl z)
   ·exact .inr (.inr z)
  obtain⟨u,r,l⟩:=hl j x v hN e2' hvis;refine⟨u,r,?_⟩
  rcases l with⟨l1,_⟩|⟨l1,c,lc,lz⟩
  ·exfalso;have l1':X.env.scope.names.lookup x=AA .local:=l1
   rcases S.frees _ hm rfl with z|z
   ·rw[l1']at z;cases z
   ·rw[l1']at z;cases z
  ·refine .inr ⟨?_,c,U7 lc hm,?_⟩
   ·have e3':Vis (relabel scope X.env) x:=e3
    rcases e3' with z|z|z
    ·exfalso;obtain⟨k',h1,h2⟩:=bd9 z
     rcases h2 with h2|h2
     ·subst h2;exact S.uniq _ hm rfl h1
     ·cases h2.2
    ·exact .inl z
    ·exact .inr z
   ·obtain⟨o,ho,hd⟩:=lz;exact⟨o,hk _ _ ho,hd⟩
 ·obtain⟨v,o,ho,hd⟩:=I.cell x c (C6 e).1;exact⟨v,o,hk _ _ ho,hd⟩
 ·have hp':p∈X.pn++pins:=by
   have:p∈(X.pn++pins)++[]:=hp;simpa using this
  obtain⟨q1,q2,q3,q4,q5⟩:=I.pin p hp';refine⟨hk _ _ q1,q2,λz=>?_,λz=>?_,q5⟩
  ·have h2:p.1=C:=z;have h3:=Ar q1;rw[h2]at h3;exact absurd h3 (Kw.mpr hC)
  ·rcases Ae.mp (I.stkSub p.1 z)with e|e
   ·exact q3 e
   ·exact q4 e
 ·unfold y6;rw[AU,AX,DC];exact S.len.symm
def bj1{fp:List AI}{pl:List (AI×Obj)}{σc:St}{H':Hp}{s':AL}(I:Inv X pins σ H s)(hf:∀b∈fp,t7 X pins H b)
  (I':Inv (X.comp scope Nc C fp pins s H) pl σc H' s'):Inv X pins σ H' s':=by
 obtain⟨hh,g,d,t,os'⟩:=s';obtain rfl:os'=s.os:=I'.os;exact I.call (h':=hh) (g':=g) (d':=d) (t':=t) (ch:=fp) I'.base I'.hok I'.bare λb hb=>by
  obtain⟨h0,h1,h2,h3,h4,h5⟩:=hf b hb;exact⟨h3,h1,h4,h5⟩
def am9{σ0:St}{H0:Hp}{s0:AL}{h':Heap}(I0:Inv X pins σ0 H0 s0)(hC:s0.heap.objs.size<=C)(I:Inv X pins σ H s)(hn:H C=AC)
  (sb:Heap.SameBut C s.heap h'):Inv X pins σ H {s with heap:=h'}:=by
 refine I.turned (t':=s.toks) (it:=C) (λb o hb e=>(sb.2 b hb).trans e) hn ?_ (.inr (Ay I0.sz hC)) ?_ ?_
 ·exact λz=>absurd (Ab I0.lt hC) (by rw[z];exact DW _)
 ·intro x c e z;obtain⟨v,q⟩:=I0.cell x c e;exact absurd (Ab q.lt hC) (by rw[z];exact DW _)
 ·intro p hp z;exact absurd (Ab (Ar (I0.pin p hp).1) hC) (by rw[z];exact DW _)
abbrev ah0(fr:List Nat)(k:Nat)(wi:TI)(g:TG)(tc:TT)(te:TE)(fin:V->Hp->Prop):St->Hp->Prop:=λσ H=>
 wi σ H λJ H1=>∀p,H1 p=AC->∃W:Nat->Nat->St->Hp->Prop,(∃m,W 0 m (y6 fr k σ) (upd H1 p (.lst [])))/\∀i m σc H2,W i m σc H2 ->
  (J.stop i H2/\fin (.ref p) H2)\/(J.go i H2/\∃N:St->Hp->Prop,(∀σ' H',N σ' H'->∃m',m'<m/\W (i+1) m' σ' H') /\
   ∀x H3,J.yld i H2 x H3->g x σc H3 λσ4 H4=>tc σ4 H4 λb H5=>if b=AB then te σ4 H5 λv H6=>∃ys,H6 p=AA (.lst ys)/\ys.length<sizeLine/\N σ4 (upd H6 p (.lst (ys++[v])))else N σ4 H5)
abbrev PCs(X:Cx)(ifs:List AR)(t:TT):Prop:=
 ∀(pins:List (AI×Obj))(s:AL)(σ:St)(H:Hp)(Q:Bool->Hp->Prop),Inv X pins σ H s->t σ H Q ->
  AV (model X.prog X.w) X.A (forIn ifs AB λc r=>if r=AB then do let ok <-Hf c X.env (eval c X.env);pure (By ok)else pure (By r)) (TP X pins σ Q) X.xe s
abbrev ck9:TT:=λ_ H Q=>Q AB H
def bz2:PCs X [] ck9:=λ_ _ _ H _ I h=>wpAny_tests_nil ⟨H,I,h⟩
def bs8{c}{t}(hc:PT X c t):PCs X [c] t:=λpins s σ H Q I h=>wpAny_tests_one (hc pins s σ H Q I h)
section
variable {fr:List Nat} {k:Nat} {tg iter elt:AR} {ifs:List AR} {wi:TI} {g:TG} {tc:TT} {te:TE} {pos:Pos}
def am7(hc:X.calm=AB)(S:CompScope X scope Nc fr k)(hg:∀C fp pins s H,PG (X.comp scope Nc C fp pins s H) tg g)(ht:∀C fp pins s H,PCs (X.comp scope Nc C fp pins s H) ifs tc)(he:∀C fp pins s H,PE (X.comp scope Nc C fp pins s H) elt te)
  {pins:List (AI×Obj)} {σ:St} {s2:AL} {H2:Hp} {it:AI} {fp:List AI} {tn:Nat->Heap->Prop} {J:It} {fin:V->Hp->Prop} {RR:AG->AI->Ia->AL->Prop} {E:AG->AL->Prop}
  (I2:Inv X pins σ H2 s2) (T:Turn X.prog X.w X.K tg J fp it tn) (st2:tn 0 s2.heap) (f2:∀b∈fp,t7 X pins H2 b)
  (h:∀p,H2 p=AC->∃W:Nat->Nat->St->Hp->Prop,(∃m,W 0 m (y6 fr k σ) (upd H2 p (.lst [])))/\∀i m σc H2,W i m σc H2 ->
   (J.stop i H2/\fin (.ref p) H2)\/(J.go i H2/\∃N:St->Hp->Prop,(∀σ' H',N σ' H'->∃m',m'<m/\W (i+1) m' σ' H') /\
    ∀x H3,J.yld i H2 x H3->g x σc H3 λσ4 H4=>tc σ4 H4 λb H5=>if b=AB then te σ4 H5 λv H6=>∃ys,H6 p=AA (.lst ys)/\ys.length<sizeLine/\N σ4 (upd H6 p (.lst (ys++[v])))else N σ4 H5))
  (hRR:∀(D C:AI)(H':Hp)(s':AL)(s3:AL)(H3:Hp)(m':Str->Option AG),Inv X pins σ H3 s3->s3.heap.objs.size<=C->Inv X pins σ H' s'->H' C=AC->s'.heap.Ns C m'->fin (.ref D) H'->RR (.ref D) C (.ok .next) s') :
  AV (model X.prog X.w) X.A (newList []) (λacc s₃=>AV (model X.prog X.w) X.A (Kx scope X.env.globals (m8 X.env.cells scope.names []) [] X.env.qual AC .none (AA X.env)) (λcenv s₄=>
   Dw (model X.prog X.w) X.A (.compStart (.ListComp elt [⟨tg,iter,ifs,0⟩] scope pos) 0 (.ref it) acc {cenv with scope:=relabel scope X.env}) (RR acc cenv.locals) s₄) E s₃) E s2:=by
 have hp:=I2.hok.fresh (AW s2.heap.objs.size);obtain⟨W,⟨m0,w0⟩,turn⟩:=h s2.heap.objs.size hp;refine BM (JI S.nocell (by intro y hy;simp at hy) (λh₁ hns₁ hsb₁=>?_) S.kind);have I3:Inv X pins σ (upd H2 s2.heap.objs.size (.lst [])) {s2 with heap:=s2.heap.push {cls:=.type "list",dict:=AC,data:=.seq ([]:List AG).toArray}}:=
  I2.laid (t':=s2.toks) (λb u e=>AQ _ e) (AW _) ⟨Ao _,[],0,.nil,Ai _ rfl⟩
 have hlt2:∀b∈fp,b<s2.heap.objs.size:=λb hb=>by
  obtain⟨o,e,_⟩:=T.obj _ _ st2 b hb;exact Ar e
 have f3:∀b∈fp,t7 X pins (upd H2 s2.heap.objs.size (.lst [])) b:=λb hb=>by
  obtain⟨q0,q⟩:=f2 b hb;exact⟨by rw[e8 (BE (hlt2 b hb))];exact q0,q⟩
 generalize hH3:(s2.heap.push {cls:=.type "list",dict:=AC,data:=.seq ([]:List AG).toArray}:Heap)=g3 at I3 hns₁ hsb₁ ⊢;have hsz:g3.objs.size=s2.heap.objs.size+1:=by rw[<-hH3,Dp]
 have hlt3:∀b∈fp,b<g3.objs.size:=λb hb=>by rw[hsz];exact Dy (hlt2 b hb)
 have k3:∀b o,g3.get? b=AA o->h₁.get? b=AA o:=λb o e=>hsb₁.extBut b o (BE (Ar e)) (AQ _ e);have st3:tn 0 g3:=T.keep _ _ _ st2 λb _ o e=>by rw[<-hH3];exact AQ _ e
 have st4:tn 0 h₁:=T.keep _ _ _ st3 λb _ o e=>k3 b o e;have I4:Inv (X.comp scope Nc g3.objs.size fp pins {s2 with heap:=g3} (upd H2 s2.heap.objs.size (.lst []))) [] (y6 fr k σ) (upd H2 s2.heap.objs.size (.lst [])) {s2 with heap:=h₁,toks:=s2.toks+([]:List (Str×AG)).length}:=
  bf3 (s:={s2 with heap:=g3}) S I3 (AW _) f3 hlt3 k3 hns₁
 generalize hXc:X.comp scope Nc g3.objs.size fp pins {s2 with heap:=g3} (upd H2 s2.heap.objs.size (.lst []))=Xc at I4;have eA:Xc.A=X.A:=by rw[<-hXc];rfl
 have eP:Xc.prog=X.prog:=by rw[<-hXc];rfl
 have ew:Xc.w=X.w:=by rw[<-hXc];rfl
 have eK:Xc.K=X.K:=by rw[<-hXc];rfl
 have ec:Xc.calm=AB:=by rw[<-hXc];exact hc
 have ee:Xc.env=Kv scope (m8 X.env.cells scope.names []) g3.objs.size X.env:=by rw[<-hXc];rfl
 have ex:Xc.xe=λ_ _=>False:=by rw[<-hXc];rfl
 have T':Turn Xc.prog Xc.w Xc.K tg J fp it tn:=by rw[eP,ew,eK];exact T
 have stat:∀{H':Hp},(∀b∈fp,H' b=AC)->∀b∈fp,t7 Xc [] H' b:=λhn b hb=>by
  obtain⟨q0,q1,q2,q3,q4,q5⟩:=f3 b hb;subst hXc;refine⟨hn b hb,BE (hlt3 b hb),λz=>?_,.inl hb,λx c e=>q4 x c (C6 e).1,λp hp=>q5 p ?_⟩
  ·rcases Ae.mp (I3.stkSub b z)with e|e
   ·exact q1 e
   ·exact q2 e
  ·have:p∈(X.pn++pins)++[]:=hp;simpa using this
 have loop:∀s₃:AL,s₃={s2 with heap:=h₁,toks:=s2.toks+([]:List (Str×AG)).length} ->
   Dw (model X.prog X.w) X.A (.compLoop (.ListComp elt [⟨tg,iter,ifs,0⟩] scope pos) 0 (.ref it) (.ref s2.heap.objs.size) (Kv scope (m8 X.env.cells scope.names []) g3.objs.size X.env)) (RR (.ref s2.heap.objs.size) g3.objs.size) s₃:=by
  rintro s₃ rfl;rw[<-ee,<-eA,<-eP,<-ew];refine bc5 (λn s'=>∃i σ' H',Inv Xc [] σ' H' s'/\tn i s'.heap/\(∀b∈fp,H' b=AC)/\W i n σ' H') ?_ m0 ⟨0,_,_,I4,st4,λb hb=>(f3 b hb).1,w0⟩;rintro n s5 ⟨i,σ5,H5,I5,st5,fr5,w5⟩
  rcases turn i n σ5 H5 w5 with⟨stop,qn⟩|⟨go,N,hN,step⟩
  ·refine thn (T'.done Xc rfl rfl rfl ec i [] s5 σ5 H5 _ I5 (stat fr5) st5 stop) λr s6⟨hr,I6⟩=>?_;subst hr;subst hXc;obtain⟨m',hm,_⟩:=id I6.loc;exact hRR _ _ H5 s6 _ _ m' I3 (AW _) (bj1 I3 f3 I6) I6.free hm qn
  ·refine thn (T'.item Xc rfl rfl rfl ec i [] s5 σ5 H5 _ I5 (stat fr5) st5 go) λr s6⟨u,hr,h6⟩=>?_;subst hr;refine thn h6 λ_ s7 z29=>?_;obtain⟨x,H7,I7,r7,y7,st7,fr7⟩:=z29;have I7':=I7.pinned (stat fr7) (T.obj _ _ st7);have hgX:PG Xc tg g:=by rw[<-hXc];exact hg _ _ _ _ _
   have htX:PCs Xc ifs tc:=by rw[<-hXc];exact ht _ _ _ _ _
   have heX:PE Xc elt te:=by rw[<-hXc];exact he _ _ _ _ _
   have again:∀{s9:AL}{σ9:St}{H9:Hp},Inv Xc ([]++R0 fp s7.heap) σ9 H9 s9->N σ9 H9->∃m,m<n/\∃i σ' H',Inv Xc [] σ' H' s9/\tn i s9.heap/\(∀b∈fp,H' b=AC)/\W i m σ' H':=λ{s9 σ9 H9}I9 n9=>by
    obtain⟨m',hm,w9⟩:=hN σ9 H9 n9;refine⟨m',hm,i+1,σ9,H9,I9.unpinned,T.keep _ _ _ st7 λb hb o e=>(I9.pin (b,o) (BF _ (BF _ (U0 hb e)))).1,λb hb=>?_,w9⟩;obtain⟨o,e,d⟩:=T.obj _ _ st7 b hb;exact(I9.pin (b,o) (BF _ (BF _ (U0 hb e)))).2.1
   have hgw:=hgX _ s7 σ5 H7 x u _ I7' r7 (step x H7 y7);rw[ex]at hgw;refine thn hgw λ_ s8 z30=>?_;obtain⟨σ8,H8,I8,q8⟩:=z30;have htw:=htX _ s8 σ8 H8 _ I8 q8;rw[ex]at htw;refine thn htw λok s9⟨H9,I9,q9⟩=>?_;cases ok with
   |false=>
    rw[if_neg AK]at q9 ⊢;exact again I9 q9
   |true=>
    rw[if_pos rfl]at q9 ⊢;have hew:=heX _ s9 σ8 H9 _ I9 q9;rw[ex]at hew;refine thn hew λxv s10 z31=>?_;obtain⟨v,H10,I10,r10,ys,hys,hlen,n10⟩:=z31;have hap:=ao9 (X:=Xc) _ s10 σ8 H10 (.ref s2.heap.objs.size) [v] (.ref s2.heap.objs.size) [xv] (λ_ H11=>N σ8 H11) I10 rfl (.cons r10 .nil) ⟨_,ys,v,rfl,rfl,hys,hlen,n10⟩;rw[ex]at hap;exact thn hap λ_ s11⟨_,H11,I11,_,n11⟩=>again I11 n11
 exact codeAny_compStart_list (loop _ rfl) (T.self _ 0 _ _ _ st4 (loop _ rfl))
def an3(S:CompScope X scope Nc fr k)(I:Inv X pins σ H s):∀x∈scope.names,x.2=.free->(X.env.cells.lookup x.1).isSome=AB:=λx hx hf=>by
 obtain⟨c,e⟩:=I.ok.has x.1 (S.frees x hx hf);rw[e];rfl
def br7(hc:X.calm=AB)(S:CompScope X scope Nc fr k)(hi:PI X tg iter wi)(hg:∀C fp pins s H,PG (X.comp scope Nc C fp pins s H) tg g)(ht:∀C fp pins s H,PCs (X.comp scope Nc C fp pins s H) ifs tc)(he:∀C fp pins s H,PE (X.comp scope Nc C fp pins s H) elt te)
  (hs:∀x,Dc iter X.env x=pure x:=by intro _;rfl):PE X (.ListComp elt [⟨tg,iter,ifs,0⟩] scope pos) (λσ H Q=>ah0 fr k wi g tc te Q σ H):=by
 intro pins s σ H Q I h;rw[eval_ListComp];refine IL (use:=AC) (cl:=m8 X.env.cells scope.names []) rfl hs (ac5 (an3 S I)) S.kind S.names ?_;refine thn (hi pins s σ H _ I h) λxv s1 h1=>thn h1 λitv s2 h2=>?_;obtain⟨it,fp,tn,J,H2,e,I2,T,st2,f2,h⟩:=h2;subst e;refine am7 (RR:=λacc C=>compPost (model X.prog X.w) X.A X.xe AC (EP X pins σ Q) acc C) hc S hg ht he I2 T st2 f2 h ?_;intro D C H' s' s3 H3 m' I3 hC I' hn hns q;exact⟨m',hns,λh' sb=>⟨.ref D,H',am9 I3 hC I' hn sb,rfl,q⟩⟩
def bg3{i:Nat}{y:Str}{py spos:Pos}(hc:X.calm=AB)(hN:X.N.Nodup)(hiy:X.N[i]?=AA y)(hy:Loc X.env.scope y)(hfy:X.fn y=AB\/X.env.scope.names.lookup y=AA .local)
  (S:CompScope X scope Nc fr k) (hi:PI X tg iter wi) (hg:∀C fp pins s H,PG (X.comp scope Nc C fp pins s H) tg g) (ht:∀C fp pins s H,PCs (X.comp scope Nc C fp pins s H) ifs tc) (he:∀C fp pins s H,PE (X.comp scope Nc C fp pins s H) elt te)
  (hsw:Ci (.ListComp elt [⟨tg,iter,ifs,0⟩] scope pos) (AA (.Name y py)) spos.line X.env=pure AB)
  (hs:∀x,Dc iter X.env x=pure x:=by intro _;rfl):PS X (.Assign [.Name y py] (.ListComp elt [⟨tg,iter,ifs,0⟩] scope pos) spos) (λD σ H=>ah0 fr k wi g tc te (λv H'=>D.nx (σ.set i (AA v)) H') σ H):=by
 intro pins s σ H D I h;rw[exec_Assign_Name_used _ _ _ _ hsw];refine AD (II (AD ?_));show AV _ X.A (do let _ <-comprehension (.ListComp elt [⟨tg,iter,ifs,0⟩] scope pos) scope X.env _ (newList []) AH (eval iter X.env) (AA (assign (.Name y py) X.env))) _ _ s;refine AD (Bf (IL (use:=AA (assign (.Name y py) X.env)) (cl:=m8 X.env.cells scope.names []) (Q:=λ_ s'=>SP X pins D .next s') rfl hs (ac5 (an3 S I)) S.kind S.names ?_) (λ_ s' hq=>AJ (AJ hq)) λ_ _ e=>e);refine thn (hi pins s σ H _ I h) λxv s1 h1=>thn h1 λitv s2 h2=>?_;obtain⟨it,fp,tn,J,H2,e,I2,T,st2,f2,h⟩:=h2;subst e;refine am7 (RR:=λacc C=>compPost (model X.prog X.w) X.A X.xe (AA (assign (.Name y py) X.env)) (λ_ s'=>SP X pins D .next s') acc C) (fin:=λv H'=>D.nx (σ.set i (AA v)) H') hc S hg ht he I2 T st2 f2 h ?_;intro D' C H' s' s3 H3 m' I3 hC I' hn hns q;show AV _ X.A (assign (.Name y py) X.env (.ref D')) _ _ s';obtain⟨oC,es,ep,hoC,hdC,hrest⟩:=id hns;have neL:C≠X.env.locals:=λz=>absurd (Ab I3.lt hC) (by rw[z];exact DW _);have nfs:C∉X.fs:=I3.nofs hC;have I'':Inv X (pins++[(C,oC)]) σ H' s':=I'.pins_of λp hp=>by
  rcases BR.mp hp with z|z
  ·exact I'.pin p (BF _ z)
  ·have e:p=(C,oC):=by simpa using z
   subst e;exact⟨hoC,hn,neL,nfs,λv z=>by rw[hdC]at z;cases z⟩
 refine Jm (U9 I'' hN hiy hy (v:=.ref D') rfl (λs'' J''=>?_) hfy);obtain⟨p1,p2,_⟩:=J''.pin (C,oC) ∎;refine⟨m',⟨oC,es,ep,p1,hdC,hrest⟩,λh' sb=>⟨_,H',am9 I3 hC J''.unpinned p2 sb,q⟩⟩
end
end L2
namespace PySem.F
def entry_set_iter':Ky table "set.__iter__"=AA DR.«frozenset.__iter__»:=
 Kz (id':="frozenset.__iter__") (by kernel_rfl) rfl (by decide+kernel) (by kernel_rfl)
def slot_set_iterator_next:Slot "set_iterator" "__next__" "set_iterator.__next__":=
 .of (owner:="set_iterator") (n:="__next__") (by rw[Kb,Iv];kernel_rfl) (by decide+kernel) (by decide+kernel) (by decide+kernel)
  (by first|exact .inl (by decide+kernel)|exact .inr (by decide+kernel)) (by rw[Hq];kernel_rfl)
def entry_set_iterator_next:Ky table "set_iterator.__next__"=AA DR.«set_iterator.__next__»:=entryFor_of_tree (by kernel_rfl)
def args_set_iterator_next_1(a:AG):LA "set_iterator.__next__" ⟨[a],[]⟩:=by unfold LA;kernel_rfl
def slot_set_iterator_iter:Slot "set_iterator" "__iter__" "set_iterator.__iter__":=
 .of (owner:="set_iterator") (n:="__iter__") (by rw[Kb,Iv];kernel_rfl) (by decide+kernel) (by decide+kernel) (by decide+kernel)
  (by first|exact .inl (by decide+kernel)|exact .inr (by decide+kernel)) (by rw[Hq];kernel_rfl)
def entry_set_iterator_iter:Ky table "set_iterator.__iter__"=AA DR.«dict_keyiterator.__iter__»:=
 Kz (id':="dict_keyiterator.__iter__") (by kernel_rfl) rfl (by decide+kernel) (by kernel_rfl)
def args_set_iterator_iter_1(a:AG):LA "set_iterator.__iter__" ⟨[a],[]⟩:=by unfold LA;kernel_rfl
end PySem.F
namespace PySem
open PySem.W PyProof.Rows
section
variable {prog:Ah} {w:Aq} {A:BP} {E:AG->AL->Prop} {s:AL}
abbrev v5(w:Aq)(a:AI)(es:Array (Int×AG))(ep:Nat)(t:Bq)(slot given:Nat):Option (AG×Nat):=
 if w.params.followText "set-order"=AB then((HH (w.params.setOrder a ep) es)[given]?).map λe=>(e.2,slot)
 else match es[IV t.place slot]?,t.place[IV t.place slot]? with
  |some (_,x),AA j=>AA (x,j+1)
  |_,_=>AC
def an4{a:AI}{es:Array (Int×AG)}{ep:Nat}{t:Bq}{slot given:Nat}{Q:Option (AG×Nat)->AL->Prop}(ho:s.heap.get? a=AA (S8 es ep t))(hf:t.fits es.size=AB)(hp:t.plain=AB)(hl:t.led=J0 w)
  (q:Q (v5 w a es ep t slot given) s):AV (model prog w) A (Ju a slot given ep) Q E s:=by
 unfold Ju Jf;refine AD (Er ho rfl hf ?_);dsimp only;refine AD (AD (Dt (AJ ?_)));unfold v5 at q;show AV _ _ (if w.params.followText "set-order"=AB then _ else _) _ _ s
 by_cases hb:w.params.followText "set-order"=AB
 ·rw[if_pos hb]at q ⊢;simp only[bne_self_eq_false,BD,if_false];unfold setWalk Jf;refine AD (AD (Er ho rfl hf ?_));dsimp only;refine AD (AD (Dt (AJ ?_)));show AV _ _ (if w.params.followText "set-order"=AB then _ else _) _ _ s;rw[if_pos hb];exact AD (Dt (AJ (AJ q)))
 ·rw[if_neg hb]at q ⊢;have hl':t.led=AB:=by rw[hl];simpa using hb
  show AV _ _ (if(!t.plain&&AE (es.size>1))=AB then _ else _) _ _ s;rw[if_neg (by rw[hp];exact AK)];show AV _ _ ((if(!t.led&&!es.isEmpty)=AB then _ else _)>>=_) _ _ s;rw[if_neg (by rw[hl'];exact AK)];exact AD (AJ (AJ q))
end
variable{ep:Nat}{t:Bq}
section
variable {prog:Ah} {w:Aq} {A:BP} {E:AG->AL->Prop} {s:AL}
abbrev Heap.IsSetIter(h:Heap)(it d:AI)(sl i n ep:Nat):Prop:=∃o,h.get? it=AA o/\o.cls=.type "set_iterator"/\o.data=.fields #[.int sl 0,.int i 0,.ref d,.int n 0,.int ep 0]
def Heap.IsSetIter.at{h h':Heap}{it d sl i n ep}(x:h.IsSetIter it d sl i n ep)(e:∀o,h.get? it=AA o->h'.get? it=AA o):h'.IsSetIter it d sl i n ep:=let⟨o,ho,r⟩:=x;⟨o,e _ ho,r⟩
def Heap.IsSetIter.typeIs{s:AL}{it d sl i n ep}(x:s.heap.IsSetIter it d sl i n ep):s.TypeIs (.ref it) "set_iterator":=let⟨o,ho,hc,_⟩:=x;⟨o,ho,hc⟩
structure SetW(w:Aq)(h:Heap)(a:AI)(es:Array (Int×AG))(ep:Nat)(t:Bq):Prop where
 at_:h.get? a=AA (S8 es ep t)
 fit:t.fits es.size=AB
 pl:t.plain=AB
 led:t.led=J0 w
def SetW.up{h h':Heap}{d:AI}{es:Array (Int×AG)}(x:SetW w h d es ep t)(e:∀o,h.get? d=AA o->h'.get? d=AA o):SetW w h' d es ep t:=⟨e _ x.at_,x.fit,x.pl,x.led⟩
def SetW.ty{d:AI}{es:Array (Int×AG)}(x:SetW w s.heap d es ep t):s.TypeIs (.ref d) "set":=⟨_,x.at_,rfl⟩
def bh2{d:AI}{es:Array (Int×AG)}{Q:AG->AL->Prop}(x:SetW w s.heap d es ep t)
  (q:Q (.ref s.heap.objs.size) {s with heap:=s.heap.push {cls:=.type "set_iterator",data:=.fields #[.int 0 0,.int 0 0,.ref d,.int es.size 0,.int ep 0]}}):AV (model prog w) A (Hh (.ref d)) Q E s:=by
 have T:=x.ty;refine Jw T F.slot_set_iter (BX F.slot_set_iter T F.entry_set_iter' ?_ (F.args_set_iter_1 _));unfold DR.«frozenset.__iter__» JJ slotArgs;simp only[List.isEmpty_nil,EO,BD,↓reduceIte,bind_assoc,Av,bne_self_eq_false];unfold JK JL;refine AD (AJ ?_)
 try dsimp only
 refine AD (AJ ?_);refine AD (AD (GH x.at_ rfl x.fit (AJ ?_)));unfold setDrawn Jf;refine AD (AD (Er x.at_ rfl x.fit ?_));dsimp only;refine AD (AD (Dt (AJ (AJ ?_))));show AV _ _ (if(!(w.params.followText "set-order")&&(!t.plain&&AE (es.size>1)))=AB then _ else _) _ _ s;rw[if_neg (by rw[x.pl];simp)];refine AD (AJ (AD (wpAny_setEpoch_of x.at_ rfl x.fit ?_)));refine AD (BM (AJ ⟨_,rfl,"set_iterator",_,⟨_,Ai _ rfl,rfl⟩,F.slot_set_iterator_next.lookup,?_⟩));simpa[GS]using q
def bj5{it d:AI}{sl sl' i:Nat}{es:Array (Int×AG)}{v:AG}{Q:Option AG->AL->Prop}(T:s.heap.IsSetIter it d sl i es.size ep)(x:SetW w s.heap d es ep t)(hx:v5 w d es ep t sl i=AA (v,sl'))
  (q:∀h',h'.IsSetIter it d sl' (i+1) es.size ep->Heap.SameBut it s.heap h'->Q (AA v) {s with heap:=h'}):AV (model prog w) A (GR (.ref it)) Q E s:=by
 have TI:=T.typeIs;obtain⟨o,ho,hc,hd⟩:=T;unfold GR;refine AD (wpAny_attempt (Bu (name:=AZ "__next__") TI F.slot_set_iterator_next (BX F.slot_set_iterator_next TI F.entry_set_iterator_next ?_ (F.args_set_iterator_next_1 _))));unfold DR.«set_iterator.__next__»;refine AD (AJ ?_);refine AD (LB ho hd ?_);dsimp only;refine AD (GH x.at_ rfl x.fit ?_);rw[if_neg ∎];show AV _ _ (Ju d sl i ep>>=_) _ _ s;refine AD (an4 (slot:=sl) (given:=i) x.at_ x.fit x.pl x.led ?_);rw[hx];dsimp only;refine AD (Eb ho hd ∎ ?_);have h1:(s.heap.update it (Jx (·.setIfInBounds 0 (GS (sl':Int))))).get? it=AA (Jx (·.setIfInBounds 0 (GS (sl':Int))) o):=Dr _ ho (FF (Bp hd _));refine AD (Eb h1 (Bp hd _) ∎ ?_);refine AJ ⟨_,rfl,AJ (q _ ⟨_,Dr _ h1 (FF (Bp (Bp hd _) _)),(GI ..).trans ((GI ..).trans hc),by rw[Bp (Bp hd _)];simp[GS]⟩ ((Heap.SameBut.update ..).trans (Heap.SameBut.update ..)))⟩
def bk4{it d:AI}{sl i:Nat}{es:Array (Int×AG)}{Q:Option AG->AL->Prop}(hh:A.handled=AC)(T:s.heap.IsSetIter it d sl i es.size ep)(x:SetW w s.heap d es ep t)(hx:v5 w d es ep t sl i=AC)
  (q:∀h',Heap.ExtBut it s.heap h'->Q AC {s with heap:=h'}):AV (model prog w) A (GR (.ref it)) Q E s:=by
 have TI:=T.typeIs;obtain⟨o,ho,hc,hd⟩:=T;unfold GR;refine AD (wpAny_attempt (Bu (name:=AZ "__next__") TI F.slot_set_iterator_next (BX F.slot_set_iterator_next TI F.entry_set_iterator_next ?_ (F.args_set_iterator_next_1 _))));unfold DR.«set_iterator.__next__»;refine AD (AJ ?_);refine AD (LB ho hd ?_);dsimp only;refine AD (GH x.at_ rfl x.fit ?_);rw[if_neg ∎];show AV _ _ (Ju d sl i ep>>=_) _ _ s;refine AD (an4 (slot:=sl) (given:=i) x.at_ x.fit x.pl x.led ?_);rw[hx];dsimp only;refine AD (Eb ho hd ∎ ?_);show AV _ _ (LC (.type "StopIteration") []>>=_) _ _ _;refine AD ?_;simp only[LC,newTuple];refine AD (BM ?_ (by size_fits));refine AD (m:=Fq _ _) (JF (a:=Bh) (by first|rfl|(simp only[Fq];rfl)) ?_);refine BM ?_ (by size_fits);simp only[raiseNew];refine AD (wpAny_handled ?_);rw[show A.in1.handled=AC from hh];refine AD (AJ (wpAny_throw ?_));refine AD (Gz (T:="StopIteration") (b:=AB) ⟨_,Ai _ rfl,rfl⟩ isSubtype_stop ?_);exact AJ (q _ (((Heap.SameBut.update ..).extBut.push _).push _))
structure SGives(w:Aq)(d:AI)(es:Array (Int×AG))(ep:Nat)(t:Bq)(sl:Nat->Nat)(x:Nat->AG):Prop where
 z:sl 0=0
 go:∀i,i<es.size->v5 w d es ep t (sl i) i=AA (x i,sl (i+1))
 fin:v5 w d es ep t (sl es.size) es.size=AC
def bf0(hh:A.handled=AC)(I d:AI)(hne:d≠I){es:Array (Int×AG)}{sl:Nat->Nat}{x:Nat->AG}(G:SGives w d es ep t sl x):
  Walks prog w A I [I,d] [I] es.size (λi v=>v=x i) (λi h=>h.IsSetIter I d (sl i) i es.size ep/\SetW w h d es ep t) where
 sub:=λb hb=>by simp at hb;simp[hb]
 frame:=λ_ _ _ st hk=>⟨st.1.at λo e=>hk I ∎ o e,st.2.up λo e=>hk d ∎ o e⟩
 item:=λi s Q E hi st hQ=>bj5 st.1 st.2 (G.go i hi) λh' T' hs'=>hQ _ h' s.toks rfl ⟨T',st.2.up λo e=>hs'.extBut d o hne e⟩ λb o hb e=>hs'.extBut b o (λh=>hb (by simp[h])) e
 done:=λs Q E st hQ=>bk4 hh st.1 st.2 G.fin λh' he'=>hQ h' s.toks λb o hb e=>he' b o (λh=>hb (by simp[h])) e
 self:=λ_ _ _ _ st hQ=>by
  refine Jw st.1.typeIs F.slot_set_iterator_iter (BX F.slot_set_iterator_iter st.1.typeIs F.entry_set_iterator_iter ?_ (F.args_set_iterator_iter_1 _));show AV _ _ (ret _) _ _ _;exact AJ ⟨_,rfl,"set_iterator",_,st.1.typeIs,F.slot_set_iterator_next.lookup,hQ⟩
def bq3{r:AI}{Q:Bool->AL->Prop}(hT:s.TypeIs (.ref r) "set")(h:Q AH s):AV (model prog w) A (FU (.ref r)) Q E s:=by
 unfold FU;refine AD (DN hT PySem.F.slot_set_len.lookup ?_);generalize hid:("set.__len__":String)=id0
 wp_delta
 rw[show splitId id0=AA ("set","__len__") from by subst hid;decide+kernel];subst hid;refine AD (Gz (T:="set") (b:=AB) hT (by rw[Hq];kernel_rfl) ?_);refine Ke (λhab=>absurd hab ∅) (λ_=>?_);refine Ke (λ_=>?_) (λhab=>absurd (by decide+kernel) hab);refine AD (Ig hT ?_);exact AJ h
def br1{d:AI}{es:Array (Int×AG)}{sl:Nat->Nat}{x:Nat->AG}(G:SGives w d es ep t sl x):KdlSrc prog w "set" d d es.size (λi v=>v=x i) (λh=>SetW w h d es ep t) where
 type:=λ_ x=>x.ty
 there:=λ_ x=>⟨Ar x.at_,Ar x.at_⟩
 keep:=λ_ _ x hk=>x.up λo e=>hk d (.inl rfl) o e
 notList:=by decide
 notTuple:=by decide
 hint:=λ_ _ _ _ x hq=>bq3 x.ty hq
 iter:=λ_ _ hh x=>⟨_,_,(λ_ _ hq=>bh2 x hq),bf0 hh _ d (BE (Ar x.at_)) G,⟨⟨_,Ai _ rfl,rfl,by simp only[G.z];rfl⟩,x.up λo e=>AQ _ e⟩⟩
end
end PySem
namespace PySem
section
variable {prog:Ah} {w:Aq} {A:BP} {E:AG->AL->Prop} {s:AL}
def ba8{it l:AI}{i:Nat}{items}{x:AG}{Q:AG->AL->Prop}(hit:s.heap.IsTupleIter it l i)
  (hl:s.heap.IsTuple l items) (hx:items[i]?=AA x)
  (hQ:∀h',h'.IsTupleIter it l (i+1)->Heap.SameBut it s.heap h'->Q x {s with heap:=h'}) :
  AV (model prog w) A (CN (.ref it)) Q E s:=by
 obtain⟨o,ho,hc,hd⟩:=id hit;obtain⟨ol,hol,_,nl,hdl⟩:=hl;unfold CN;refine AD (Bu (name:=AZ "__next__") hit.typeIs F.slot_tuple_iterator_next
  (BX F.slot_tuple_iterator_next hit.typeIs F.entry_tuple_iterator_next ?_ (F.args_tuple_iterator_next_1 _)))
 show AV _ _ (field (.ref it) 0 >>= _) _ _ s;refine AD (DX ho hd (x:=.ref l) rfl ?_);show AV _ _ (if (Az l == Bh)=AB then _ else _) _ _ s;rw [if_neg (show ¬ ((Az l == Bh)=AB) from AK)];show AV _ _ (field (.ref it) 1 >>= _) _ _ s;refine AD (DX ho hd (x:=.int i 0) rfl ?_);show AV _ _ (seqItems? (.ref l) >>= _) _ _ s;refine AD (EX hol hdl ?_);simp only [CH,hx];refine AD (Eb ho hd ∎ (AJ ⟨x,rfl,AJ (hQ _ ?_ (Heap.SameBut.update ..))⟩));exact ⟨_,Dr _ ho (FF (Bp hd _)),(GI ..).trans hc,by
  rw[Bp hd];simp[GS]⟩
def ba9{it l:AI}{i:Nat}{items}{Q:AG->AL->Prop}(hh:A.handled=AC)
  (hit:s.heap.IsTupleIter it l i) (hl:s.heap.IsTuple l items) (hx:items[i]?=AC)
  (hE:∀h' e,Heap.ExtBut it s.heap h'->(∃o,h'.get? e=AA o/\o.cls=.type "StopIteration")->E (.ref e) {s with heap:=h'}) :
  AV (model prog w) A (CN (.ref it)) Q E s:=by
 obtain⟨o,ho,hc,hd⟩:=id hit;obtain⟨ol,hol,_,nl,hdl⟩:=hl;unfold CN;refine AD (Bu (name:=AZ "__next__") hit.typeIs F.slot_tuple_iterator_next
  (BX F.slot_tuple_iterator_next hit.typeIs F.entry_tuple_iterator_next ?_ (F.args_tuple_iterator_next_1 _)))
 show AV _ _ (field (.ref it) 0>>=_) _ _ s;refine AD (DX ho hd (x:=.ref l) rfl ?_);show AV _ _ (if(Az l==Bh)=AB then _ else _) _ _ s;rw[if_neg (show ¬((Az l==Bh)=AB) from AK)];show AV _ _ (field (.ref it) 1>>=_) _ _ s;refine AD (DX ho hd (x:=.int i 0) rfl ?_);show AV _ _ (seqItems? (.ref l)>>=_) _ _ s;refine AD (EX hol hdl ?_);simp only[CH,hx];refine AD (HZ (AD (Eb ho hd ∎ ?_)));show AV _ _ (LC (.type "StopIteration") []>>=_) _ _ _;refine AD ?_;simp only[LC,newTuple];refine AD (BM ?_ (by size_fits));refine AD (m:=Fq _ _) (JF (a:=Bh) (by first|rfl|(simp only[Fq];rfl)) ?_);refine BM ?_ (by size_fits);simp only[raiseNew];refine AD (wpAny_handled ?_)
 first|rw[show A.in1.handled=AC from hh]|rw[hh]
 refine AD (AJ (wpAny_throw ?_));exact hE _ _ (((Heap.SameBut.update ..).extBut.push _).push _) ⟨_,Ai _ rfl,rfl⟩
end
def Draws.tuple{prog}{w}{A}(hh:A.handled=AC)it l(hne:l≠it)items:
  Draws prog w A it [it,l] items.size (λi v=>items[i]?=AA v) λi h=>h.IsTupleIter it l i/\h.IsTuple l items where
 live:=λ_ _ st=>let⟨o,ho,_⟩:=st.1;⟨o,ho⟩
 frame:=λ_ _ _ st hk=>⟨st.1.at λo=>hk it ∎ o,let⟨o,ho,r⟩:=st.2;⟨o,hk l ∎ o ho,r⟩⟩
 item:=λi s Q E hi st hQ=>(ba8 st.1 st.2 (x:=items[i]) (by simp[]) λh' hit' hs'=>hQ _ h' s.toks (by simp[]) ⟨hit',st.2.extBut hs'.extBut hne⟩ hs')
 done:=λs Q E st=>ba9 hh st.1 st.2 ∎
open AutoSeq1 (wpAny_loadPart') in
def bb0(l:AI)(items:Array AG)(n:Nat)(dct:Option AI)(sl:Array (Option AG)):
  LD (DR.«enumerate.__new__» ⟨[.type "enumerate",.ref l],[]⟩) (λ_ R s=>s.heap.get? l=AA {cls:=.type "tuple",dict:=dct,data:=.seq items n,slots:=sl} /\
   R (.ok (.ret (.ref (s.heap.push {cls:=.type "tuple_iterator",data:=.fields #[.ref l,.int 0 0]}).objs.size)))
    {s with heap:=(s.heap.push {cls:=.type "tuple_iterator",data:=.fields #[.ref l,.int 0 0]}).push {cls:=.type "enumerate",data:=.fields #[.none,.bool AH,.ref s.heap.objs.size,GS 0,.none,.none]}}):=
 .of_wp λprog w A R s h=>by
  obtain⟨hp,g,d,tk,os⟩:=s;obtain⟨hl,h⟩:=h;have hsub:=sub_enumerate;have hL:Heap.IsTuple (Shared.heap ⟨hp,g,d,tk,os⟩) l items:=⟨_,hl,rfl,n,rfl⟩
  wp_walk using FO hl
  refine wpAny_stack_any λst=>AJ ?_
  split
  ·rename_i c _ _ _ _ _;cases(c==Db "enumerate")
   ·wp_walk using FO hl,Ec hL
    exact⟨_,rfl,h⟩
   ·wp_walk using FO hl,Ec hL
    exact⟨_,rfl,h⟩
  ·wp_walk using FO hl,Ec hL
   exact⟨_,rfl,h⟩
section
variable {prog:Ah} {w:Aq} {A:BP} {E:AG->AL->Prop} {s:AL}
def bb1{l:AI}{items:Array AG}{Q:AG->AL->Prop}(hL:s.heap.IsTuple l items)
  (h:∀h',LF h' (s.heap.objs.size+1) s.heap.objs.size 0 .none->h'.IsTupleIter s.heap.objs.size l 0->h'.objs.size=s.heap.objs.size+2 ->
   (∀b o,s.heap.get? b=AA o->h'.get? b=AA o)->Q (.ref (s.heap.objs.size+1)) {s with heap:=h'}) :
  AV (model prog w) A (call (.type "enumerate") [.ref l]) Q E s:=by
 obtain⟨⟨c,dct,dt,sl⟩,hl,hc,n,hd⟩:=hL;replace hc:c=.type "tuple":=hc;replace hd:dt=.seq items n:=hd;subst hc hd;refine callType_new F.called_enumerate ∅ (F.typeCall_enumerate_1 _) (F.newCall_enumerate_1 _) (λobj=>F.args_object_init_2 obj _) F.entry_enumerate_new
  (bb0 l items n dct sl) ⟨hl,?_⟩
 have hz:(s.heap.push {cls:=.type "tuple_iterator",data:=.fields #[.ref l,.int 0 0]}).objs.size=s.heap.objs.size+1:=Dp ..;show _/\_;rw[hz];have he:LF ((s.heap.push {cls:=.type "tuple_iterator",data:=.fields #[.ref l,.int 0 0]}).push
   {cls:=.type "enumerate",data:=.fields #[.none,.bool AH,.ref s.heap.objs.size,GS 0,.none,.none]}) (s.heap.objs.size+1) s.heap.objs.size 0 .none:=by
  have:=Ai (s.heap.push {cls:=.type "tuple_iterator",data:=.fields #[.ref l,.int 0 0]})
   (o:={cls:=.type "enumerate",data:=.fields #[.none,.bool AH,.ref s.heap.objs.size,GS 0,.none,.none]}) rfl
  rw[hz]at this;exact this
 refine⟨⟨_,he,rfl⟩,h _ he ⟨_,AQ _ (Ai _ rfl),rfl,rfl⟩ (by rw[Dp,hz]) λb o x=>AQ _ (AQ _ x)⟩
end
end PySem
namespace L2
open PySem PySem.Spec PyProof.Rows
variable{pins:List (AI×Obj)}{σ:St}{elts:List AR}{k0:Nat}{tp:Pos}
section
variable {X:Cx} {H:Hp} {s:AL} {h':Heap}
def Inv.turnedNew{t':Nat}{ch:List AI}{o:HO}(I:Inv X pins σ H s)(hch:∀b∈ch,t7 X pins H b)(k:∀b u,b∉ch->s.heap.get? b=AA u->h'.get? b=AA u)(ex:∀b∈ch,∃u,h'.get? b=AA u)
  (new:i7 X.prog X.w (upd H s.heap.objs.size o) h' s.heap.objs.size o):Inv X pins σ (upd H s.heap.objs.size o) {s with heap:=h',toks:=t'}:=by
 have hT:H s.heap.objs.size=AC:=I.hok.fresh (AW _);have neT:∀b u,s.heap.get? b=AA u->b≠s.heap.objs.size:=λb u e=>BE (Ar e);have nch:∀b u,H b=AA u->b∉ch:=λb u e z=>by rw[(hch b z).1]at e;cases e
 refine I.step (g':=s.gens) (d':=s.drawn) (ch:=ch) (λb hb=>?_) (λb u _ _ hc e _=>k b u hc e) (λb u _ _ hc e _=>⟨u.slots,k b u hc e⟩) (λb u _ e n=>by rw[e8 (neT b u e)];exact n)
  (λb u hc e=>⟨u,k b u hc e⟩) (λb xs e=>by rw[e8 (o6 e hT)];exact e) (λb u v e=>by rw[e8 (o6 e hT)];exact e) (λb ps e=>⟨#[],by rw[e8 (o6 e hT),e];simp⟩) (λm hm=>?_) (λb u e=>?_) I.bare
 ·obtain⟨h0,h1,h2,h3,h4,h5⟩:=hch b hb;exact⟨h3,h1,h4,h5⟩
 ·obtain⟨ob,es,ep,ho,r⟩:=hm;exact⟨ob,es,ep,k _ ob (λz=>(hch _ z).2.1 rfl) ho,r⟩
 ·by_cases hb:b=s.heap.objs.size
  ·subst hb;rw[n0]at e;cases e;exact new
  ·rw[e8 hb]at e;refine(I.hok b u e).stay (λc v hc q=>k c v ?_ q) (λc q=>by rw[e8 (o6 q hT)];exact q) λc xs q=>by rw[e8 (o6 q hT)];exact q
   rcases hc with z|z
   ·rw[z];exact nch b u e
   ·exact nch c _ z
def Inv.turnedAll{t'}{ch:List AI}(I:Inv X pins σ H s)(hch:∀b∈ch,t7 X pins H b)(k:∀b u,b∉ch->s.heap.get? b=AA u->h'.get? b=AA u):Inv X pins σ H {s with heap:=h',toks:=t'}:=by
 have nch:∀b u,H b=AA u->b∉ch:=λb u e z=>by rw[(hch b z).1]at e;cases e
 refine I.step (λb hb=>?_) (λb u _ _ hc e _=>k b u hc e) (λb u _ _ hc e _=>⟨u.slots,k b u hc e⟩) (λb u _ e n=>n)
  (λb u hc e=>⟨u,k b u hc e⟩) (λb xs e=>e) (λb u v e=>e) (λb ps e=>⟨#[],by rw[e];simp⟩) (λm hm=>?_) (λb u e=>?_) I.bare
 ·obtain⟨h0,h1,h2,h3,h4,h5⟩:=hch b hb;exact⟨h3,h1,h4,h5⟩
 ·obtain⟨ob,es,ep,ho,r⟩:=hm;exact⟨ob,es,ep,k _ ob (λz=>(hch _ z).2.1 rfl) ho,r⟩
 ·refine(I.hok b u e).stay (λc v hc=>k c v ?_) (λc q=>q) λc xs q=>q
  rcases hc with z|z
  ·rw[z];exact nch b u e
  ·exact nch c _ z
end
abbrev Ite(K:AN)(sq:Hp->List V->Prop):It:=
 ⟨λi H=>∃xs x,sq H xs/\xs[i]?=AA x,λi H x H'=>∃t v,H t=AC/\x=.ref t/\H'=upd H t (.tup [.int i,v])/\∀xs,sq H xs->xs[i]?=AA v,λi H=>∃xs,sq H xs/\xs.length=i⟩
def ap0{P:Ah}{w:Aq}{K:AN}{sq:Hp->List V->Prop}{e it:AI}{pit:Nat->Heap->Prop}{bad:AI->Prop}
  (hei:e≠it) (iobj:∀i h,pit i h->∃o,h.get? it=AA o/\∀v,o.data≠.cell v) (ikeep:∀i h h',pit i h->(∀o,h.get? it=AA o->h'.get? it=AA o)->pit i h')
  (dr:∀(X:Cx),X.prog=P->X.w=w->X.K=K->X.calm=AB->∀(i:Nat)(pins:List (AI×Obj))(s:AL)(σ:St)(H:Hp)(xs:List V),Inv X pins σ H s->t7 X pins H e->t7 X pins H it->pit i s.heap->(∃old,LF s.heap e it i old)->sq H xs ->
   ∃(its:List AG)(fp:List AI)(Pv:Nat->AG->Prop)(St:Nat->Heap->Prop),c0 xs its/\xs.length<=sizeLine/\Draws P w X.A.in1 it fp its.length Pv St/\e∉fp/\St i s.heap/\(∀j v,Pv j v->its[j]?=AA v)/\∀j h,St j h->pit j h)
  (inj:∀(X:Cx)(pins:List (AI×Obj))(s:AL)(σ:St)(H:Hp)(xs ys:List V),X.K=K->Inv X pins σ H s->sq H xs->sq H ys->xs=ys) :
  Turn P w K (.Tuple elts k0 tp) (Ite K sq) [e,it] e (λi h=>(∃old,LF h e it i old)/\pit i h) where
 mem:=by simp
 obj:=λi h st b hb=>by
  rcases Ae.mp hb with z|z
  ·subst z;obtain⟨⟨old,he⟩,_⟩:=st;exact⟨_,he,λv z=>by cases z⟩
  ·have z':b=it:=by simpa using z
   subst z';exact iobj i h st.2
 keep:=λi h h' st kk=>by
  obtain⟨⟨old,he⟩,hp⟩:=st;exact⟨⟨old,kk e ∎ _ he⟩,ikeep i h h' hp λo q=>kk it ∎ o q⟩
 item:=by
  intro X hP hw hK hc i pins s σ H E I hf st hg;obtain⟨xs,x,hq,hx⟩:=hg;obtain⟨its,fp,Pv,St,rv,hz,D,hef,hst,hPv,hSt⟩:=dr X hP hw hK hc i pins s σ H xs I (hf e ∎) (hf it ∎) st.2 st.1 hq;obtain⟨⟨old,he⟩,hp⟩:=st;have hi:i<its.length:=by
   rw[<-rv.length];exact(Ac.mp hx).1
  refine wpAny_pyNext_enum_itemD D he hst hi hei hef λy h1 tk hPy ho hst' hT hsz hk=>?_;obtain⟨u,hu,ru⟩:=rv.get hx;have ey:y=u:=by
   have q:=hPv i y hPy;rw[hu]at q;exact(Ag q).symm
  subst ey;refine⟨_,rfl,?_⟩;have hT':H s.heap.objs.size=AC:=I.hok.fresh (AW _);have elt:e<s.heap.objs.size:=Ar he;refine wpAny_letOwnedTupleGo_enum ho λh2 he2 hs2=>?_;have q2:Heap.SameBut e h1 h2:=hs2;have kk:∀b u,b∉[e,it]->s.heap.get? b=AA u->h2.get? b=AA u:=λb u hb q=>by
   have h1':b≠e:=λz=>hb (by simp[z]);have h2':b≠it:=λz=>hb (by simp[z]);exact(q2.2 b h1').trans (hk b u h1' h2' q)
  have hT2:h2.get? s.heap.objs.size=AA {cls:=.type "tuple",data:=.seq #[.int i tk,y]}:=(q2.2 _ (Hg elt)).trans hT;have pit2:pit (i+1) h2:=ikeep _ _ _ (hSt _ _ hst') λo q=>(q2.2 it (DF hei)).trans q;have I1:Inv X pins σ (upd H s.heap.objs.size (.tup [.int i,x])) {s with heap:=h2,toks:=tk+1}:=by
   refine I.turnedNew (ch:=[e,it]) hf kk (λb hb=>?_) ?_
   ·rcases Ae.mp hb with z|z
    ·exact⟨_,by rw[z];exact he2⟩
    ·have z':b=it:=by simpa using z
     subst z';obtain⟨o,q,_⟩:=iobj _ _ pit2;exact⟨o,q⟩
   ·exact⟨by show 2<=sizeLine;decide,[.int i tk,y],.cons ⟨_,rfl⟩ (.cons ru .nil),⟨_,hT2,rfl,rfl,_,rfl⟩⟩
  refine⟨.ref s.heap.objs.size,_,I1,rfl,⟨s.heap.objs.size,x,hT',rfl,rfl,λys hy=>by rw[inj X pins s σ H ys xs hK I hy hq];exact hx⟩,⟨⟨_,by have:=he2;simpa using this⟩,pit2⟩,λb hb=>?_⟩;have nb:b≠s.heap.objs.size:=by
   rcases Ae.mp hb with z|z
   ·rw[z];exact BE elt
   ·have z':b=it:=by simpa using z
    subst z';obtain⟨o,q,_⟩:=iobj _ _ hp;exact BE (Ar q)
  rw[e8 nb];exact(hf b hb).1
 done:=by
  intro X hP hw hK hc i pins s σ H E I hf st hg;obtain⟨xs,hq,hx⟩:=hg;obtain⟨its,fp,Pv,St,rv,hz,D,hef,hst,hPv,hSt⟩:=dr X hP hw hK hc i pins s σ H xs I (hf e ∎) (hf it ∎) st.2 st.1 hq;obtain⟨⟨old,he⟩,hp⟩:=st;have hi:i=its.length:=by rw[<-rv.length];exact hx.symm
  rw[hi]at hst;refine wpAny_pyNext_enum_endD D he hst λh1 eb=>⟨rfl,?_⟩;exact I.turnedAll (t':=s.toks) (ch:=[e,it]) hf λb u hb q=>eb b u (λz=>hb (by simp[z])) q
 self:=λA i s Q E st h=>by
  obtain⟨⟨old,he⟩,_⟩:=st;exact Gk he h
def X4{h:Heap}{a b:AI}{o u}(ha:h.get? a=AA o)(hb:h.get? b=AA u)(d:o.cls≠u.cls):a≠b:=λz=>by
 grind
section
variable {X:Cx}
def bb6:BK "enumerate"=AA (.type "enumerate"):=rfl
def bb9:BK "reversed"=AA (.type "reversed"):=rfl
def bo5{H1:Hp}{s1:AL}{R:It->Hp->Prop}{l:AI}{xs:List V}{E:AG->AL->Prop}(I1:Inv X pins σ H1 s1)(hq:SqL X.K H1 l xs)(q:R (Ite X.K λH xs=>SqL X.K H l xs) H1):
  AV (model X.prog X.w) X.A (call (.type "enumerate") [.ref l]) (λv s=>AV (model X.prog X.w) X.A (Hh v) (PIE X pins σ (.Tuple elts k0 tp) R) E s) E s1:=by
 obtain⟨its,rv,pl,hz⟩:=I1.list hq;refine call_enumerate_list pl.isList λh' he hit hsz kk=>Gk he ?_;have I2:Inv X pins σ H1 {s1 with heap:=h'}:=I1.kept (t':=s1.toks) kk;have hlt:∀b∈[s1.heap.objs.size+1,s1.heap.objs.size],s1.heap.objs.size<=b:=λb hb=>by
  rcases Ae.mp hb with z|z
  ·rw[z];exact Ic _
  ·have z':b=s1.heap.objs.size:=by simpa using z
   rw[z'];exact AW _
 refine⟨s1.heap.objs.size+1,[s1.heap.objs.size+1,s1.heap.objs.size],_,_,H1,rfl,I2,ap0 (sq:=λH xs=>SqL X.K H l xs) (pit:=λi h=>h.IsListIter s1.heap.objs.size l i) (bad:=λ_=>True) (Gm _) ?_ ?_ ?_ ?_,⟨⟨_,by simpa using he⟩,hit⟩,λb hb=>I1.fpOk (hlt b hb) (I1.hok.fresh (hlt b hb)),q⟩
 ·rintro i h ⟨o,ho,hc,hd⟩;exact⟨o,ho,λv z=>by rw[hd]at z;cases z⟩
 ·exact λi h h' st kk=>st.at kk
 ·intro Y hP hw hK hc i pins s σ H xs I f1 f2 hit he hq;rw[<-hK]at hq;obtain⟨its,rv,pl,hz⟩:=I.list hq;obtain⟨old,he⟩:=he;obtain⟨oi,hoi,hci,hdi⟩:=id hit;obtain⟨ol,nl,hol,hcl,hddl,hdl⟩:=id pl;have n1:l≠s1.heap.objs.size:=X4 hol hoi (by rw[hcl,hci];decide);have n2:s1.heap.objs.size+1≠l:=X4 he hol (by rw[hcl];show Db "enumerate"≠_;decide);refine⟨its,[s1.heap.objs.size,l],(λi v=>its.toArray[i]?=AA v),(λi h=>h.IsListIter s1.heap.objs.size l i/\h.IsList l its.toArray),rv,hz,?_,?_,⟨hit,pl.isList⟩,λj v z=>by simpa using z,λj h z=>z.1⟩
  ·have D:=Draws.list (prog:=X.prog) (w:=X.w) (A:=Y.A.in1) (by exact I.ok.hd hc) s1.heap.objs.size l n1 its.toArray;simpa using D
  ·intro z
   rcases Ae.mp z with z|z
   ·exact Gm _ z
   ·exact n2 (by simpa using z)
 ·intro Y pins s σ H xs ys hK I h1 h2;rw[<-hK]at h1 h2;exact I.list_inj h1 h2
def bn7{H1:Hp}{s1:AL}{R:It->Hp->Prop}{l:AI}{xs:List V}{E:AG->AL->Prop}(I1:Inv X pins σ H1 s1)(hq:SqT X.K H1 l xs)(q:R (Ite X.K λH xs=>SqT X.K H l xs) H1):
  AV (model X.prog X.w) X.A (call (.type "enumerate") [.ref l]) (λv s=>AV (model X.prog X.w) X.A (Hh v) (PIE X pins σ (.Tuple elts k0 tp) R) E s) E s1:=by
 obtain⟨its,rv,pl,hz⟩:=I1.tuple hq;refine bb1 (show s1.heap.IsTuple l its.toArray from pl) λh' he hit hsz kk=>Gk he ?_;have I2:Inv X pins σ H1 {s1 with heap:=h'}:=I1.kept (t':=s1.toks) kk;have hlt:∀b∈[s1.heap.objs.size+1,s1.heap.objs.size],s1.heap.objs.size<=b:=λb hb=>by
  rcases Ae.mp hb with z|z
  ·rw[z];exact Ic _
  ·have z':b=s1.heap.objs.size:=by simpa using z
   rw[z'];exact AW _
 refine⟨s1.heap.objs.size+1,[s1.heap.objs.size+1,s1.heap.objs.size],_,_,H1,rfl,I2,ap0 (sq:=λH xs=>SqT X.K H l xs) (pit:=λi h=>h.IsTupleIter s1.heap.objs.size l i) (bad:=λ_=>True) (Gm _) ?_ ?_ ?_ ?_,⟨⟨_,by simpa using he⟩,hit⟩,λb hb=>I1.fpOk (hlt b hb) (I1.hok.fresh (hlt b hb)),q⟩
 ·rintro i h ⟨o,ho,hc,hd⟩;exact⟨o,ho,λv z=>by rw[hd]at z;cases z⟩
 ·exact λi h h' st kk=>st.at kk
 ·intro Y hP hw hK hc i pins s σ H xs I f1 f2 hit he hq;rw[<-hK]at hq;obtain⟨its,rv,pl,hz⟩:=I.tuple hq;obtain⟨old,he⟩:=he;obtain⟨oi,hoi,hci,hdi⟩:=id hit;obtain⟨ol,hol,hcl,nl,hdl⟩:=id pl;have n1:l≠s1.heap.objs.size:=X4 hol hoi (by rw[hcl,hci];decide);have n2:s1.heap.objs.size+1≠l:=X4 he hol (by rw[hcl];show Db "enumerate"≠_;decide);refine⟨its,[s1.heap.objs.size,l],(λi v=>its.toArray[i]?=AA v),(λi h=>h.IsTupleIter s1.heap.objs.size l i/\h.IsTuple l its.toArray),rv,hz,?_,?_,⟨hit,pl⟩,λj v z=>by simpa using z,λj h z=>z.1⟩
  ·have D:=Draws.tuple (prog:=X.prog) (w:=X.w) (A:=Y.A.in1) (by exact I.ok.hd hc) s1.heap.objs.size l n1 its.toArray;simpa using D
  ·intro z
   rcases Ae.mp z with z|z
   ·exact Gm _ z
   ·exact n2 (by simpa using z)
 ·intro Y pins s σ H xs ys hK I h1 h2;rw[<-hK]at h1 h2;exact I.tuple_inj h1 h2
abbrev Itv(K:AN)(a:AI)(n:Nat):It:=
 ⟨λi H=>(∃xs,SqL K H a xs/\xs.length=n)/\i<n,λi H x H'=>H'=H/\∀xs,SqL K H a xs->xs[n-1-i]?=AA x,λi H=>(∃xs,SqL K H a xs/\xs.length=n)/\i=n⟩
def bo7{P:Ah}{w:Aq}{K:AN}{tg:AR}(a it:AI)(n:Nat):Turn P w K tg (Itv K a n) [it] it (λi h=>h.IsRevIter it a ((n:Int)-1-(i:Int))) where
 mem:=by simp
 obj:=λi h st b hb=>by
  have e:b=it:=by simpa using hb
  subst e;obtain⟨o,e,c,d⟩:=st;exact⟨o,e,λv z=>by rw[d]at z;cases z⟩
 keep:=λi h h' st k=>st.at λo e=>k it ∎ o e
 item:=by
  intro X hP hw hK hc i pins s σ H E I hf st hg;subst hP hw hK;obtain⟨⟨xs,hq,hn⟩,hi⟩:=hg;subst hn;obtain⟨its,rv,p,hz⟩:=I.list hq;obtain⟨x,hx⟩:∃x,xs[xs.length-1-i]?=AA x:=⟨_,AM ⋯⟩;obtain⟨u,hu,ru⟩:=rv.get hx;obtain⟨f0,f1,f2,f3,f4,f5⟩:=hf it ∎;have e:(xs.length:Int)-1-(i:Int)=((xs.length-1-i:Nat):Int):=by lia
  rw[e]at st;refine wpAny_pyNext_rev_item st p.isList (x:=u) (by simpa using hu) λh' st' sb=>?_;have I1:Inv X pins σ H {s with heap:=h'}:=I.turned (t':=s.toks) (λb o hb e=>(sb.2 b hb).trans e) f0 f1 f3 f4 f5;obtain⟨o,e',c,d⟩:=id st';have e2:((xs.length-1-i:Nat):Int)-1=(xs.length:Int)-1-((i+1:Nat):Int):=by lia
  rw[e2]at st';exact⟨u,rfl,Y4 (s:={s with heap:=h'}) e' c d ∅ ⟨x,H,I1,ru,⟨rfl,λys hy=>by rw[I.list_inj hy hq];exact hx⟩,st',λb hb=>(hf b hb).1⟩⟩
 done:=by
  intro X hP hw hK hc i pins s σ H E I hf st hg;obtain⟨_,hi⟩:=hg;obtain⟨f0,f1,f2,f3,f4,f5⟩:=hf it ∎;have e:(n:Int)-1-(i:Int)=-1:=by lia
  rw[e]at st;exact wpAny_pyNext_rev_end (I.ok.hd hc) st λh' eb=>⟨rfl,I.turned (t':=s.toks) (λb o hb e=>eb b o hb e) f0 f1 f3 f4 f5⟩
 self:=λ_ _ _ _ _ st h=>JM st h
abbrev ch7(K:AN)(ta:TA):TI:=λσ H R=>ta σ H λvs H1=>∃a xs,vs=[.ref a]/\SqL K H1 a xs/\R (Itv K a xs.length) H1
def bx0{tg a:AR}{ta:TA}{p pos:Pos}(hg:Gl X "reversed")(hm:X.mg "reversed"=AC)(ha:PA X [a] ta)(hs:Am [a] X.env=[(AH,eval a X.env)]:=by rfl):
  PI X tg (.Call (.Name "reversed" p) [a] [] pos) (ch7 X.K ta):=by
 intro pins s σ H R I h;refine Jn (A9 I hg hm bb9 (BY (thn (ha pos pins s σ H _ I h) λus s1 z32=>?_) hs rfl));obtain⟨vs,H1,I1,r1,q1⟩:=z32;obtain⟨l,xs,e,hq,q⟩:=q1;subst e;obtain⟨u,rfl,ru⟩:=r1.one;cases ru;obtain⟨its,rv,pl,hz⟩:=I1.list hq;refine call_reversed_list pl.isList ?_;have hit:(s1.heap.push (revObj l ((its.toArray.size:Int)-1))).IsRevIter s1.heap.objs.size l ((xs.length:Int)-1-((0:Nat):Int)):=by
  refine⟨_,Ai _ rfl,rfl,?_⟩;have e:((its.toArray.size:Nat):Int)-1=(xs.length:Int)-1-((0:Nat):Int):=by rw[Aa,<-rv.length];lia
  rw[e];rfl
 refine JM (s:={s1 with heap:=s1.heap.push (revObj l ((its.toArray.size:Int)-1))}) hit ?_;refine⟨s1.heap.objs.size,[s1.heap.objs.size],_,_,H1,rfl,I1.kept (t':=s1.toks) λb o e=>AQ _ e,bo7 l _ xs.length,hit,λb hb=>?_,q⟩;have e:b=s1.heap.objs.size:=by simpa using hb
 subst e;exact I1.fpOk (AW _) (I1.hok.fresh (AW _))
abbrev Y1(i j:Int):Prop:=0<j/\j.natAbs.log2<9000
def bq0:OpR X (Cr .FloorDiv) (rI Y1 λi j=>.int (i / j)):=opI λi j _ _ _ _ _ hc q=>by
 have h1:(0:Int)<j:=hc.1;exact floordiv_int ⋯ (by rw[Int.fdiv_eq_ediv_of_nonneg i ⋯];exact q) (.inl (PyProof.noPylong_of_log2 hc.2))
abbrev cg8(K:AN):R2:=λx y H Q=>∃a b xs ys,x=.ref a/\y=.ref b/\SqT K H a xs/\SqT K H b ys/\xs.length+ys.length<=sizeLine /\
 (xs=[]->Q (.ref b) H)/\(xs≠[]->ys=[]->Q (.ref a) H)/\(xs≠[]->ys≠[]->∀p,H p=AC->Q (.ref p) (upd H p (.tup (xs++ys))))
def b21:OpR X (Cr .Add) (cg8 X.K):=by
 intro pins s σ H x y v u Q I rx ry h;obtain⟨a,b,xs,ys,rfl,rfl,ha,hb,hz,q0,q1,q2⟩:=h
 by_cases hx:xs=[]
 ·subst hx;cases rx;cases ry;obtain⟨its,r1,p1,_⟩:=I.tuple ha;obtain⟨its2,r2,p2,_⟩:=I.tuple hb;cases r1;obtain⟨⟨cls,dd,data,sl⟩,ho,hc,n,hd⟩:=id p1;obtain⟨⟨cls2,dd2,data2,sl2⟩,ho2,hc2,n2,hd2⟩:=id p2;subst hc hd hc2 hd2;exact Ie ⟨_,ho,rfl⟩ ⟨_,ho2,rfl⟩ HD IJ PySem.F.slot_tuple_add PySem.F.entry_tuple_add (PySem.F.args_tuple_add_2 _ _)
   (tuple_addW0 a b #[] its2.toArray n n2 dd dd2 sl sl2 ∎) ⟨ho,ho2,.ref b,H,I,rfl,q0 rfl⟩
 ·exact br0 pins s σ H _ _ v u Q I rx ry ⟨a,b,xs,ys,rfl,rfl,ha,hb,hx,hz,q1 hx,q2 hx⟩
end
end L2
namespace Ek
open PySem PySem.Spec PyProof.Rows L2
set_option genCtorIdx false
set_option genInjectivity false
inductive Tg where
 |n (i:Nat)|tup (is:List Nat)
mutual
inductive E where
 |non|bl (b:Bool)|int (i:Int)|str (x:Str)
 |v (i:Nat)
 |tup (es:Es)|lst (es:Es)
 |bin (o:FE) (a b:E)
 |neg (a:E)
 |cmp (o:Eo) (a b:E)
 |isN (a:E)|notN (a:E)
 |and (a b:E)|or (a b:E)|not (a:E)
 |ite (c a b:E)
 |ix (a b:E)
 |sl (a lo hi:E)
 |gsel (g:Str) (k:E)|gget (g:Str) (k d:E)
 |len (a:E)|toInt (a:E)|list (a:E)|tuple (a:E)
 |min (a b:E)
 |call (f:Str) (es:Es)|calln (f:Str) (es:Es)|gf (f:Str)|callv (i:Nat) (es:Es)|isT (t:String) (a:E)
 |fld (a:E) (f:Str)|meth (a:E) (m:Str) (es:Es)|make (c:Str) (es:Es)
 |app (a b:E)|ext (a b:E)|popAt (a b:E)|pop (a:E)
 |lrev (a:E)
 |gc (g:Str)
 |any (a:E)|dni
 |sset (a:E)
 |comp (Nc:List Str) (fr:List Nat) (k:Nat) (t:Tg) (it:It) (c:E) (e:E)
inductive Es where
 |nil|cons (e:E) (r:Es)
inductive It where
 |seq (e:E)|rng (a:E)|rng2 (a b:E)|enum (e:E)|rev (e:E)
end
set_option genCtorIdx true
mutual
inductive S where
 |set (i:Nat) (e:E)
 |put (o i v:E)
 |iput (o i v:E)
 |fldS (o:E) (f:Str) (v:E)
 |ex (e:E)
 |iff (c:E) (a b:Ss)
 |ret (e:E)|retN
 |for (t:Tg) (it:It) (b:Ss)
 |while (c:E) (b:Ss)
 |pass|dead
 |dfn (i np:Nat) (N:List Str) (cp:List Nat) (b:Ss)
inductive Ss where
 |nil|cons (s:S) (r:Ss)
end
abbrev Es.len:Es->Nat
 |.nil=>0
 |.cons _ r=>r.len+1
set_option genInjectivity true
inductive D where
 |non|bl (b:Bool)|int (i:Int)|str (x:Str)|tup (ds:List D)|ref (a:AI)|fn (f:Str)|clo (np:Nat) (N:List Str) (b:Ss) (cs:List D)|ktup (ks:List Key)
inductive Ob where
 |lst (ds:List D)|fro (ds:List D)|dct (kvs:List (Key×D))|dtt (kvs:List (Ap×D))|ins (c:Str) (fs:List (Str×D))
@[reducible]noncomputable def Sto:=AI->Option Ob
@[reducible]noncomputable def c9:=List (Option D)
@[reducible]noncomputable def DK:=D->Sto->Prop
@[reducible]noncomputable def DT:=c9->Sto->DK->Prop
@[reducible]noncomputable def DB:=c9->Sto->(Bool->Sto->Prop)->Prop
@[reducible]noncomputable def DA:=c9->Sto->(List D->Sto->Prop)->Prop
abbrev b7(st:Sto)(a:AI)(o:Ob):Sto:=λb=>if b=a then AA o else st b
def b8{st}{a}{o}:b7 st a o a=AA o:=by unfold b7;rw[if_pos rfl]
def i9{st}{a b}{o}(h:b≠a):b7 st a o b=st b:=by unfold b7;rw[if_neg h]
abbrev rdS(st:Sto)(a:AI)(ds:List D):Prop:=st a=AA (.lst ds)\/st a=AA (.fro ds)
abbrev Sub(st st':Sto):Prop:=∀a o,st a=AA o->st' a=AA o
def Sub.refl(st:Sto):Sub st st:=λ_ _ h=>h
mutual
noncomputable def D.py:D->Ap
 |.non=>.none|.bl b=>.bool b|.int i=>.int i|.str x=>.str x|.tup ds=>.tuple (D.pys ds)|.ref _=>.none|.fn _=>.none|.clo _ _ _ _=>.none|.ktup _=>.none
noncomputable def D.pys:List D->List Ap
 |[]=>[]
 |d::r=>d.py::D.pys r
end
mutual
noncomputable def D.pure:D->Bool
 |.tup ds=>D.pures ds
 |.ref _=>AH
 |.fn _=>AH
 |.clo _ _ _ _=>AH
 |.ktup _=>AH
 |.str x=>GX (.str x)
 |_=>AB
noncomputable def D.pures:List D->Bool
 |[]=>AB
 |d::r=>d.pure&&D.pures r
end
abbrev kD:Key->D
 |.inl i=>.int i
 |.inr x=>.str x
abbrev deq(d e:D):Bool:=BC d.py e.py
abbrev i5(d:D):Nat:=d.py.depth
@[reducible]noncomputable def Spec:=List D->Sto->DK->Prop
structure Sg where
 F:Str->Bool
 Phi:Str->Spec
 G:Str->List (Str×D)
 C:Str->List Str
 Mk:Str->Spec
 MF:Str->Bool
 PhiC:Nat->List Str->Ss->List D->Spec
 Kc:Str->Option D
@[inline]def c6(c m:Str):Str:=⟨c.cps++#[46]++m.cps⟩
abbrev p6(C:Str->List Str)(f:Str):Option Int:=match C ⟨#[33]++f.cps⟩with
 |[]=>AC
 |_::l=>AA (l.length:Nat)
abbrev g7(f:Str)(d:D):List (Str×D)->List (Str×D)
 |[]=>[(f,d)]
 |(g,e)::r=>if g=f then(g,d)::r else(g,e)::g7 f d r
abbrev N2(Z:Sg)(ta:Sto->(List D->Sto->Prop)->Prop)(st:Sto)(Q:DK):D->Prop
 |.fn f=>Z.F f=AB/\ta st λds st1=>Z.Phi f ds st1 Q
 |.clo np N b cs=>ta st λds st1=>Z.PhiC np N b cs ds st1 Q
 |_=>False
abbrev C5(env:c9):List Nat->Option (List D)
 |[]=>AA []
 |i::is=>match env[i]?,C5 env is with
  |some (AA d),AA ds=>AA (d::ds)
  |_,_=>AC
abbrev G0(i j:Int):Prop:=ak1 i j\/(i.natAbs<2^20000/\j.natAbs<2^20000)
abbrev z6(kvs:List (Key×D))(k:Key):Option D:=(kvs.find? λkv=>AE (kv.1=k)).map (·.2)
abbrev t6:FE->D->D->Sto->DK->Prop
 |.Add,.int i,.int j,st,Q=>Q (.int (i+j)) st
 |.Add,.tup xs,.tup ys,st,Q=>xs.length+ys.length<=sizeLine/\Q (.tup (xs++ys)) st
 |.Add,.ref a,.ref b,st,Q=>∃xs ys,st a=AA (.lst xs)/\st b=AA (.lst ys)/\xs.length+ys.length<=sizeLine/\∀p,st p=AC->Q (.ref p) (b7 st p (.lst (xs++ys)))
 |.Sub,.int i,.int j,st,Q=>Q (.int (i-j)) st
 |.Mult,.int i,.int j,st,Q=>G0 i j/\Q (.int (i*j)) st
 |.Mult,.tup xs,.int k,st,Q=>xs≠[]/\1<=k/\k<2^62/\xs.length*k.toNat<=sizeLine/\Q (.tup (AY k.toNat xs).flatten) st
 |.Mod,.int i,.int j,st,Q=>0<j/\Q (.int (i % j)) st
 |.FloorDiv,.int i,.int j,st,Q=>Y1 i j/\Q (.int (i / j)) st
 |.Pow,.int i,.int j,st,Q=>aj5 i j/\Q (.int (i^j.toNat)) st
 |_,_,_,_,_=>False
abbrev i6:Eo->D->D->Sto->DK->Prop
 |.Eq,x,y,st,Q=>x.pure=AB/\y.pure=AB/\ES (i5 x) (i5 y)<=2000/\Q (.bl (deq x y)) st
 |.NotEq,x,y,st,Q=>x.pure=AB/\y.pure=AB/\ES (i5 x) (i5 y)<=2000/\Q (.bl (!deq x y)) st
 |.Lt,.int i,.int j,st,Q=>Q (.bl (AE (i<j))) st
 |.LtE,.int i,.int j,st,Q=>Q (.bl (AE (i<=j))) st
 |.Gt,.int i,.int j,st,Q=>Q (.bl (AE (j<i))) st
 |.GtE,.int i,.int j,st,Q=>Q (.bl (AE (j<=i))) st
 |.In,x,.tup ys,st,Q=>x.pure=AB/\D.pures ys=AB/\i5 x<=2000/\Q (.bl (ys.any λy=>deq y x)) st
 |.NotIn,x,.tup ys,st,Q=>x.pure=AB/\D.pures ys=AB/\i5 x<=2000/\Q (.bl (!ys.any λy=>deq y x)) st
 |.In,.int i,.ktup ks,st,Q=>Q (.bl (ks.any λk=>AE (k=.inl i))) st
 |.In,.str w,.ktup ks,st,Q=>(D.str w).pure=AB/\Q (.bl (ks.any λk=>AE (k=.inr w))) st
 |.NotIn,.str w,.ktup ks,st,Q=>(D.str w).pure=AB/\Q (.bl (!ks.any λk=>AE (k=.inr w))) st
 |.In,.str w,.ref a,st,Q=>∃kvs,st a=AA (.dct kvs)/\Q (.bl (z6 kvs (.inr w)).isSome) st
 |.NotIn,.int i,.ref a,st,Q=>∃kvs,st a=AA (.dct kvs)/\Q (.bl (!(z6 kvs (.inl i)).isSome)) st
 |.Is,.bl b,.bl c,st,Q=>Q (.bl (b==c)) st
 |.IsNot,.bl b,.bl c,st,Q=>Q (.bl (b != c)) st
 |_,_,_,_,_=>False
abbrev ixR:D->D->Sto->DK->Prop
 |.tup ds,.int i,st,Q=>∃d,atI ds i=AA d/\Q d st
 |.ref a,.int i,st,Q=>(∃ds d,rdS st a ds/\atI ds i=AA d/\Q d st)\/∃kvs d,st a=AA (.dct kvs)/\z6 kvs (.inl i)=AA d/\Q d st
 |.ref a,.str w,st,Q=>∃kvs d,st a=AA (.dct kvs)/\z6 kvs (.inr w)=AA d/\Q d st
 |.str w,.int i,st,Q=>∃c,w.length<=sizeLine/\atI w.cps.toList i=AA c/\Q (.str ⟨#[c]⟩) st
 |_,_,_,_=>False
abbrev p5(xs:List D)(lo hi:Option Int):List D:=(xs.drop (HT.sIx xs.length 0 lo)).take (HT.sIx xs.length xs.length hi-HT.sIx xs.length 0 lo)
abbrev slR:D->Option Int->Option Int->Sto->DK->Prop
 |.tup ds,lo,hi,st,Q=>¬(HT.sIx ds.length 0 lo=0/\HT.sIx ds.length ds.length hi=ds.length)/\Q (.tup (p5 ds lo hi)) st
 |.ref a,lo,hi,st,Q=>∃ds,rdS st a ds/\∀p,st p=AC->Q (.ref p) (b7 st p (.lst (p5 ds lo hi)))
 |_,_,_,_,_=>False
abbrev o8:List (Str×D)->Str->Option D
 |[],_=>AC
 |(k,d)::r,x=>if k=x then AA d else o8 r x
abbrev G9:D->Sto->DK->Prop
 |.tup ds,st,Q=>Q (.int ds.length) st
 |.ref a,st,Q=>∃ds,rdS st a ds/\Q (.int ds.length) st
 |_,_,_=>False
abbrev R3:D->Sto->DK->Prop
 |.bl b,st,Q=>Q (.int (if b then 1 else 0)) st
 |.int i,st,Q=>Q (.int i) st
 |_,_,_=>False
abbrev X7:D->Sto->DK->Prop
 |.tup ds,st,Q=>∀p,st p=AC->Q (.ref p) (b7 st p (.lst ds))
 |.ref a,st,Q=>∃ds,rdS st a ds/\∀p,st p=AC->Q (.ref p) (b7 st p (.lst ds))
 |_,_,_=>False
abbrev M4:D->Sto->DK->Prop
 |.tup ds,st,Q=>Q (.tup ds) st
 |.ref a,st,Q=>∃ds,rdS st a ds/\Q (.tup ds) st
 |_,_,_=>False
abbrev aj6:D->Sto->DK->Prop
 |.ref a,st,Q=>∃bs:List Bool,rdS st a (bs.map D.bl)/\Q (.bl (bs.any id)) st
 |_,_,_=>False
abbrev av0:D->Sto->DK->Prop
 |.ref a,st,Q=>∃ds,rdS st a ds/\Q (.bl AB) st
 |_,_,_=>False
abbrev Y7:D->Sto->DK->Prop
 |.ref a,st,Q=>∃ns us:List Int,rdS st a (ns.map D.int)/\(∀x∈ns,x∈us)/\us.length<64/\∀(ts:List Int)p,ts.length<64->(∀x,x∈ts↔x∈ns)->st p=AC->Q (.ref p) (b7 st p (.lst (ts.map D.int)))
 |_,_,_=>False
abbrev ag7:D->D->Sto->DK->Prop
 |.ref a,.int i,st,Q=>(-(2^62)<=i/\i<2^62)/\∃ds k d,st a=AA (.lst ds)/\ixN ds.length i=AA k/\ds[k]?=AA d/\Q d (b7 st a (.lst (ds.eraseIdx k)))
 |_,_,_,_=>False
abbrev T5:D->Sto->DK->Prop
 |.ref a,st,Q=>∃ds d,st a=AA (.lst (ds++[d]))/\Q d (b7 st a (.lst ds))
 |_,_,_=>False
abbrev S7:D->Sto->DK->Prop
 |.ref a,st,Q=>∃ds,st a=AA (.lst ds)/\Q .non (b7 st a (.lst ds.reverse))
 |_,_,_=>False
abbrev cx1:D->Option Int->Option Int->Sto->DK->Prop
 |.tup ds,lo,hi,st,Q=>Q (.tup (p5 ds lo hi)) st
 |_,_,_,_,_=>False
abbrev ai7:D->D->D->Sto->(Sto->Prop)->Prop
 |.ref a,.int i,d,st,K=>∃kvs,st a=AA (.dct kvs)/\z6 kvs (.inl i)=AC/\kvs.length<sizeLine/\K (b7 st a (.dct (kvs++[(.inl i,d)])))
 |_,_,_,_,_=>False
abbrev T4:D->D->Sto->DK->Prop
 |.ref a,d,st,Q=>∃ds,st a=AA (.lst ds)/\ds.length<sizeLine/\Q .non (b7 st a (.lst (ds++[d])))
 |_,_,_,_=>False
abbrev O1:D->D->Sto->DK->Prop
 |.ref a,.ref b,st,Q=>∃ds es,st a=AA (.lst ds)/\st b=AA (.lst es)/\ds.length+es.length<=sizeLine/\Q .non (b7 st a (.lst (ds++es)))
 |.ref a,.tup es,st,Q=>∃ds,st a=AA (.lst ds)/\ds.length+es.length<=sizeLine/\Q .non (b7 st a (.lst (ds++es)))
 |_,_,_,_=>False
abbrev v2:D->Sto->Prop
 |.ref a,st=>∃ds,rdS st a ds
 |_,_=>False
abbrev ct9:D->Sto->Prop
 |.tup _,_=>True
 |.ref a,st=>∃ds,rdS st a ds
 |_,_=>False
abbrev tyD:D->Sto->Option String
 |.non,_=>AA "NoneType"|.bl _,_=>AA "bool"|.int _,_=>AA "int"|.str _,_=>AA "str"|.tup _,_=>AA "tuple"|.ktup _,_=>AA "tuple"
 |_,_=>AC
abbrev X9(t:String)(d:D)(st:Sto)(Q:DK):Prop:=(∃ty,tyD d st=AA ty/\Q (.bl (ty==t||(ty=="bool"&&t=="int"))) st)\/∃a ds,d=.ref a/\rdS st a ds/\Q (.bl (t=="list")) st
abbrev F6:c9->List Nat->List D->c9
 |env,i::is,d::ds=>F6 (env.set i (AA d)) is ds
 |env,_,_=>env
abbrev B6:Tg->D->c9->(c9->Prop)->Prop
 |.n i,d,env,k=>k (env.set i (AA d))
 |.tup is,d,env,k=>∃ds,d=.tup ds/\ds.length=is.length/\k (F6 env is ds)
abbrev l8(lo:Int)(n:Nat):List D:=(BG n).map λi=>.int (lo+(i:Nat))
abbrev k7:Nat->List D->List D
 |_,[]=>[]
 |i,d::ds=>.tup [.int i,d]::k7 (i+1) ds
abbrev t0(chk:Sto->Prop)(t:Tg)(tc:DB)(te:DT)(Q:List D->Sto->Prop):List D->List D->c9->Sto->Prop
 |[],acc,_,st=>chk st/\Q acc st
 |d::ds,acc,env,st=>chk st/\B6 t d env λenv'=>tc env' st λb st1=>
   if b=AB then te env' st1 λv st2=>t0 chk t tc te Q ds (acc++[v]) env' st2
   else t0 chk t tc te Q ds acc env' st1
abbrev E9(fr:List Nat)(k:Nat)(env:c9):c9:=(fr.map λj=>(env[j]?).join)++AY k AC
abbrev E.isNon:E->Bool
 |.non=>AB
 |_=>AH
@[reducible]noncomputable def ItK:=List D->(Sto->Prop)->Sto->Prop
mutual
noncomputable def wpE(Z:Sg):E->DT
 |.non=>λ_ st Q=>Q .non st
 |.bl b=>λ_ st Q=>Q (.bl b) st
 |.int i=>λ_ st Q=>Q (.int i) st
 |.str x=>λ_ st Q=>Q (.str x) st
 |.v i=>λenv st Q=>∃d,env[i]?=AA (AA d)/\Q d st
 |.tup es=>λenv st Q=>p3 Z es env st λds st1=>Q (.tup ds) st1
 |.lst es=>λenv st Q=>p3 Z es env st λds st1=>∀p,st1 p=AC->Q (.ref p) (b7 st1 p (.lst ds))
 |.bin o a b=>λenv st Q=>wpE Z a env st λx st1=>wpE Z b env st1 λy st2=>t6 o x y st2 Q
 |.neg a=>λenv st Q=>wpE Z a env st λx st1=>∃i,x=.int i/\Q (.int (-i)) st1
 |.cmp o a b=>λenv st Q=>wpE Z a env st λx st1=>wpE Z b env st1 λy st2=>i6 o x y st2 Q
 |.isN a=>λenv st Q=>wpE Z a env st λx st1=>(x=.non/\Q (.bl AB) st1)\/(x≠.non/\Q (.bl AH) st1)
 |.notN a=>λenv st Q=>wpE Z a env st λx st1=>(x=.non/\Q (.bl AH) st1)\/(x≠.non/\Q (.bl AB) st1)
 |.and a b=>λenv st Q=>wpE Z a env st λx st1=>∃c,x=.bl c/\(if c=AB then wpE Z b env st1 Q else Q (.bl AH) st1)
 |.or a b=>λenv st Q=>wpE Z a env st λx st1=>∃c,x=.bl c/\(if c=AB then Q (.bl AB) st1 else wpE Z b env st1 Q)
 |.not a=>λenv st Q=>wpE Z a env st λx st1=>∃c,x=.bl c/\Q (.bl (!c)) st1
 |.ite c a b=>λenv st Q=>wpE Z c env st λx st1=>∃k,x=.bl k/\(if k=AB then wpE Z a env st1 Q else wpE Z b env st1 Q)
 |.ix a b=>λenv st Q=>wpE Z a env st λx st1=>wpE Z b env st1 λy st2=>ixR x y st2 Q
 |.sl a lo hi=>λenv st Q=>wpE Z a env st λx st1=>
   (if lo.isNon=AB then λk=>k AC st1 else λ(k:Option Int->Sto->Prop)=>wpE Z lo env st1 λd st'=>∃i,d=.int i/\k (AA i) st') λl st2=>
   (if hi.isNon=AB then λk=>k AC st2 else λ(k:Option Int->Sto->Prop)=>wpE Z hi env st2 λd st'=>∃i,d=.int i/\k (AA i) st') λh st3=>slR x l h st3 Q
 |.gget g k d=>λenv st Q=>Z.G g≠[]/\wpE Z k env st λx st1=>wpE Z d env st1 λy st2=>∃w,x=.str w/\Q ((o8 (Z.G g) w).getD y) st2
 |.gsel g k=>λenv st Q=>Z.G g≠[]/\wpE Z k env st λx st1=>∃w d,x=.str w/\o8 (Z.G g) w=AA d/\Q d st1
 |.len a=>λenv st Q=>wpE Z a env st λx st1=>G9 x st1 Q
 |.toInt a=>λenv st Q=>wpE Z a env st λx st1=>R3 x st1 Q
 |.list a=>λenv st Q=>wpE Z a env st λx st1=>X7 x st1 Q
 |.tuple a=>λenv st Q=>wpE Z a env st λx st1=>M4 x st1 Q
 |.min a b=>λenv st Q=>wpE Z a env st λx st1=>wpE Z b env st1 λy st2=>∃i j,x=.int i/\y=.int j/\Q (.int (if j<i then j else i)) st2
 |.call f es=>λenv st Q=>Z.F f=AB/\p3 Z es env st λds st1=>Z.Phi f ds st1 Q
 |.calln f es=>λenv st Q=>∃i,Z.F f=AB/\p6 Z.C f=AA i/\p3 Z es env st λds st1=>Z.Phi f (ds++[.int i]) st1 Q
 |.gf f=>λ_ st Q=>Z.F f=AB/\Q (.fn f) st
 |.callv i es=>λenv st Q=>∃x,env[i]?=AA (AA x)/\N2 Z (p3 Z es env) st Q x
 |.gc g=>λ_ st Q=>∃d,Z.Kc g=AA d/\Q d st
 |.isT t a=>λenv st Q=>wpE Z a env st λx st1=>X9 t x st1 Q
 |.fld a f=>λenv st Q=>wpE Z a env st λx st1=>∃p c fs d,x=.ref p/\st1 p=AA (.ins c fs)/\f∈Z.C c/\fs.lookup f=AA d/\Q d st1
 |.meth a m es=>λenv st Q=>wpE Z a env st λx st1=>∃p c fs,x=.ref p/\st1 p=AA (.ins c fs)/\fs.lookup m=AC/\Z.F (c6 c m)=AB/\p3 Z es env st1 λds st2=>Z.Phi (c6 c m) (.ref p::ds) st2 Q
 |.make c es=>λenv st Q=>Z.MF (c6 c "__init__")=AB/\p3 Z es env st λds st1=>∀p,st1 p=AC->Z.Mk (c6 c "__init__") (.ref p::ds) (b7 st1 p (.ins c [])) λv st2=>v=.non/\Q (.ref p) st2
 |.app a b=>λenv st Q=>wpE Z a env st λx st1=>v2 x st1/\wpE Z b env st1 λy st2=>T4 x y st2 Q
 |.ext a b=>λenv st Q=>wpE Z a env st λx st1=>v2 x st1/\wpE Z b env st1 λy st2=>O1 x y st2 Q
 |.popAt a b=>λenv st Q=>wpE Z a env st λx st1=>v2 x st1/\wpE Z b env st1 λy st2=>ag7 x y st2 Q
 |.pop a=>λenv st Q=>wpE Z a env st λx st1=>T5 x st1 Q
 |.any a=>λenv st Q=>wpE Z a env st λx st1=>aj6 x st1 Q
 |.sset a=>λenv st Q=>wpE Z a env st λx st1=>Y7 x st1 Q
 |.dni=>λenv st Q=>∀p,st p=AC->Q (.ref p) (b7 st p (.dct []))
 |.lrev a=>λenv st Q=>wpE Z a env st λx st1=>S7 x st1 Q
 |.comp _ fr k t it c e=>λenv st Q=>u2 Z it env st λitems chk st1=>items.length<=1000000 /\
   t0 chk t (if c.isNon=AB then λ_ st Q=>Q AB st else λenv st Q=>wpE Z c env st λd st'=>∃b,d=.bl b/\Q b st') (λenv st Q=>wpE Z e env st Q) (λacc st'=>∀p,st' p=AC->Q (.ref p) (b7 st' p (.lst acc))) items [] (E9 fr k env) st1
noncomputable def p3(Z:Sg):Es->DA
 |.nil=>λ_ st Q=>Q [] st
 |.cons e r=>λenv st Q=>wpE Z e env st λd st1=>p3 Z r env st1 λds st2=>Q (d::ds) st2
noncomputable def u2(Z:Sg):It->c9->Sto->ItK->Prop
 |.seq e=>λenv st k=>wpE Z e env st λd st1=>(∃ds,d=.tup ds/\k ds (λ_=>True) st1)\/(∃a ds,d=.ref a/\rdS st1 a ds/\k ds (λst'=>rdS st' a ds) st1)
 |.rng a=>λenv st k=>wpE Z a env st λd st1=>∃j:Int,d=.int j/\(-(2^62)<=j/\j<2^62)/\k (l8 0 j.toNat) (λ_=>True) st1
 |.rng2 a b=>λenv st k=>wpE Z a env st λd st1=>wpE Z b env st1 λe st2=>∃i j:Int,d=.int i/\e=.int j/\(-(2^62)<=i/\i<2^62/\-(2^62)<=j/\j<2^62)/\k (l8 i (j-i).toNat) (λ_=>True) st2
 |.enum e=>λenv st k=>wpE Z e env st λd st1=>(∃ds,d=.tup ds/\k (k7 0 ds) (λ_=>True) st1)\/(∃a ds,d=.ref a/\rdS st1 a ds/\k (k7 0 ds) (λst'=>rdS st' a ds) st1)
 |.rev e=>λenv st k=>wpE Z e env st λd st1=>∃a ds,d=.ref a/\rdS st1 a ds/\k ds.reverse (λst'=>rdS st' a ds) st1
end
abbrev wpT(Z:Sg)(e:E):DB:=λenv st Q=>wpE Z e env st λd st'=>∃b,d=.bl b/\Q b st'
structure DEnds where
 nx:c9->Sto->Prop
 rt:DK
 bk:c9->Sto->Prop:=λ_ _=>False
 ct:c9->Sto->Prop:=λ_ _=>False
@[reducible]noncomputable def DS:=DEnds->c9->Sto->Prop
abbrev p0(chk:Sto->Prop)(t:Tg)(tb:DS)(F:DEnds):List D->c9->Sto->Prop
 |[],env,st=>chk st/\F.nx env st
 |d::ds,env,st=>chk st/\B6 t d env λenv'=>tb {F with nx:=p0 chk t tb F ds,ct:=p0 chk t tb F ds,bk:=F.nx} env' st
abbrev k6(tc:DB)(tb:DS)(F:DEnds):Nat->c9->Sto->Prop
 |0,_,_=>False
 |n+1,env,st=>tc env st λb st1=>if b=AB then tb {F with nx:=k6 tc tb F n,ct:=k6 tc tb F n,bk:=F.nx} env st1 else F.nx env st1
mutual
noncomputable def wpS(Z:Sg):S->DS
 |.set i e=>λF env st=>wpE Z e env st λd st1=>F.nx (env.set i (AA d)) st1
 |.iput o i v=>λF env st=>wpE Z v env st λd st1=>wpE Z o env st1 λx st2=>wpE Z i env st2 λy st3=>ai7 x y d st3 λst4=>F.nx env st4
 |.put o i v=>λF env st=>wpE Z v env st λd st1=>wpE Z o env st1 λx st2=>wpE Z i env st2 λy st3=>
   ∃a j k ds,x=.ref a/\y=.int j/\st3 a=AA (.lst ds)/\ixN ds.length j=AA k/\F.nx env (b7 st3 a (.lst (ds.set k d)))
 |.fldS o f v=>λF env st=>wpE Z v env st λd st1=>wpE Z o env st1 λx st2=>∃p c fs,x=.ref p/\st2 p=AA (.ins c fs)/\f∈Z.C c/\fs.length<1000/\F.nx env (b7 st2 p (.ins c (g7 f d fs)))
 |.ex e=>λF env st=>wpE Z e env st λ_ st1=>F.nx env st1
 |.iff c a b=>λF env st=>wpT Z c env st λk st1=>if k=AB then d8 Z a F env st1 else d8 Z b F env st1
 |.ret e=>λF env st=>wpE Z e env st F.rt
 |.retN=>λF _ st=>F.rt .non st
 |.for t it b=>λF env st=>u2 Z it env st λitems chk st1=>p0 chk t (d8 Z b) F items env st1
 |.while c b=>λF env st=>∃n,k6 (wpT Z c) (d8 Z b) F n env st
 |.dead=>λ_ _ _=>False
 |.pass=>λF env st=>F.nx env st
 |.dfn i np N cp b=>λF env st=>∃cs,C5 env cp=AA cs/\F.nx (env.set i (AA (.clo np N b cs))) st
noncomputable def d8(Z:Sg):Ss->DS
 |.nil=>λF env st=>F.nx env st
 |.cons s r=>λF env st=>wpS Z s {F with nx:=d8 Z r F} env st
end
structure Def where
 np:Nat
 N:List Str
 body:Ss
@[reducible]noncomputable def f6:=Str->Option Def
abbrev X3(f:Def)(ds:List D):c9:=ds.map AA++AY (f.N.length-ds.length) AC
structure Gs where
 tab:Str->List (Str×D)
 cls:Str->List Str
 cst:Str->Option D
abbrev ba6(P:f6)(G:Gs)(lo lo2:Str->Spec)(po:Bool)(lc:Nat->List Str->Ss->List D->Spec)(f:Str):Spec:=λds st Q=>∃fd,P f=AA fd/\ds.length=fd.np/\d8 ⟨λf=>(P f).isSome,lo,G.tab,G.cls,lo2,λf=>po&&(P f).isSome,lc,G.cst⟩ fd.body
   {nx:=λ_ st'=>∃s2,Sub s2 st'/\Q .non s2,rt:=λd st'=>∃s2,Sub s2 st'/\Q d s2} (X3 fd ds) st
abbrev D3(N:List Str)(ds cs:List D):c9:=(ds++cs).map AA++AY (N.length-(ds++cs).length) AC
abbrev a93(P:f6)(G:Gs)(lo lo2:Str->Spec)(po:Bool)(lc:Nat->List Str->Ss->List D->Spec)(np:Nat)(N:List Str)(b:Ss)(cs:List D):Spec:=λds st Q=>ds.length=np/\d8 ⟨λf=>(P f).isSome,lo,G.tab,G.cls,lo2,λf=>po&&(P f).isSome,lc,G.cst⟩ b
   {nx:=λ_ st'=>∃s2,Sub s2 st'/\Q .non s2,rt:=λd st'=>∃s2,Sub s2 st'/\Q d s2} (D3 N ds cs) st
abbrev o9(P:f6)(G:Gs):Nat->(Str->Spec)×(Str->Spec)×Bool×(Nat->List Str->Ss->List D->Spec)
 |0=>(λ_ _ _ _=>False,λ_ _ _ _=>False,AH,λ_ _ _ _ _ _ _=>False)
 |n+1=>(ba6 P G (o9 P G n).1 (o9 P G n).2.1 (o9 P G n).2.2.1 (o9 P G n).2.2.2,(o9 P G n).1,AB,a93 P G (o9 P G n).1 (o9 P G n).2.1 (o9 P G n).2.2.1 (o9 P G n).2.2.2)
abbrev sem(P:f6)(G:Gs)(n:Nat):Str->Spec:=(o9 P G n).1
abbrev B8(P:f6)(G:Gs)(n:Nat):Nat->List Str->Ss->List D->Spec:=(o9 P G n).2.2.2
def bl3{P:f6}{G:Gs}{n:Nat}:sem P G (n+1)=ba6 P G (sem P G n) (o9 P G n).2.1 (o9 P G n).2.2.1 (B8 P G n):=rfl
def bh6{P:f6}{G:Gs}{n:Nat}:B8 P G (n+1)=a93 P G (sem P G n) (o9 P G n).2.1 (o9 P G n).2.2.1 (B8 P G n):=rfl
class Tbs where
 ps:List AI
 mt:Ss->BB->List Str->Dj->Prop
 kt:Bool
variable{H:Hp}{a:AI}{xs vs:List V}{v:V}{ds:List D}{o:HO}{σ:L2.St}{st:Sto}{kvs:List (Key×D)}{ob:Ob}{X:Cx}{x:AR}{t:DT}{Qd:DK}{Q:VK}
structure FnScC(N P:List Str)(sc:BB):Prop where
 kind:sc.kind=.function
 co:sc.isCoroutine=AH
 gen:sc.isGenerator=AH
 nd:N.Nodup
 pre:N.take P.length=P
 par:∀x∈P,sc.names.lookup x=AA .local
 nocell:∀y∈sc.names,y.2≠.cell
 fre:∀y∈sc.names,y.2=.free->sc.names.lookup y.1=AA .free
abbrev D7(H:Hp)(cv:AG):Prop:=∃c o u vs q t,cv=.ref c/\H c=AA (.frz o u)/\(∀vs,u≠.lst vs)/\o.data=.fields vs/\vs[1]?=AA (.str q t)
variable [Tbs]
structure CloF(fd:Bi)(np:Nat)(N ps:List Str)(b:Ss):Prop where
 sc:FnScC N ps fd.scope
 np:ps.length=np
 mt:Tbs.mt b fd.scope N fd.body
 bind:∀us:List AG,us.length=ps.length->EZ fd ⟨us,[]⟩=pure (ps.zip us)
 gl:fd.globals=AO
 bl:fd.builtins=Cq
 has:∀x,(x,Au)∈fd.scope.names->∃c,fd.closure.lookup x=AA c
 fre:∀x c,fd.closure.lookup x=AA c->(x,Au)∈fd.scope.names
 inj:∀x y c,fd.closure.lookup x=AA c->fd.closure.lookup y=AA c->x=y
structure CloR(H:Hp)(f:AI)(fd:Bi)(np:Nat)(N:List Str)(us:List V):Prop where
 ex:∃o u,H f=AA (.frz o u)/\(∀vs,u≠.lst vs)/\o.data=.func fd
 cd:D7 H fd.code
 cl:∀x c,fd.closure.lookup x=AA c->∃o' u' w,H c=AA (.frz o' u')/\(∀vs,u'≠.lst vs)/\o'.data=.cell (AA w)
 at':∀(i:Nat)v,us[i]?=AA v->∃x c o' u' w,N[np+i]?=AA x/\fd.closure.lookup x=AA c/\H c=AA (.frz o' u')/\(∀vs,u'≠.lst vs)/\o'.data=.cell (AA w)/\c8 v w
abbrev R7(H:Hp)(f:AI)(np:Nat)(N:List Str)(b:Ss)(us:List V):Prop:=∃fd ps,CloF fd np N ps b/\CloR H f fd np N us
abbrev SqX(K:AN)(H:Hp)(a:AI)(xs:List V):Prop:=H a=AA (.tup xs)\/(Tbs.kt=AB/\SqT K H a xs)
def SqX.sqt{K}(h:SqX K H a xs):=h.elim (λh=>.inl (.inl h)) λh=>h.2
def SqX.of{K:AN}(h:H a=AA (.tup xs)):SqX K H a xs:=.inl h
inductive IsD(K:AN)(H:Hp):D->V->Prop where
 |non:IsD K H .non .non
 |bl (b:Bool):IsD K H (.bl b) (.bl b)
 |int (i:Int):IsD K H (.int i) (.int i)
 |str (x:Str):IsD K H (.str x) (.str x)
 |ref (a:AI):IsD K H (.ref a) (.ref a)
 |fn {f:Str} {a:AI}:BH K AO f=AA (AA (.ref a))->IsD K H (.fn f) (.ref a)
 |clo {f:AI} {np:Nat} {N:List Str} {b:Ss} {ds:List D} {us:List V}:R7 H f np N b us->ds.length=us.length->(∀(i:Nat)d v,ds[i]?=AA d->us[i]?=AA v->IsD K H d v)->IsD K H (.clo np N b ds) (.ref f)
 |tup {a:AI} {ds:List D} {vs:List V}:SqX K H a vs->ds.length=vs.length->(∀(i:Nat)d v,ds[i]?=AA d->vs[i]?=AA v->IsD K H d v)->IsD K H (.tup ds) (.ref a)
 |ktup {a:AI} {ks:List Key}:SqT K (λ_=>AC) a (ks.map kV)->D.pures (ks.map kD)=AB->IsD K H (.ktup ks) (.ref a)
structure IsDs(K:AN)(H:Hp)(ds:List D)(vs:List V):Prop where
 len:ds.length=vs.length
 at':∀(i:Nat)d v,ds[i]?=AA d->vs[i]?=AA v->IsD K H d v
section
variable {K:AN} {H' H2:Hp} {d:D} {es:List D} {ws:List V}
def IsD.mk(h:SqX K H a vs)(r:IsDs K H ds vs):IsD K H (.tup ds) (.ref a):=.tup h r.len r.at'
def IsD.tup_invX(h:IsD K H (.tup ds) v):∃a vs,v=.ref a/\SqX K H a vs/\IsDs K H ds vs:=by
 cases h with
 |tup a b c=>exact⟨_,_,rfl,a,b,c⟩
def IsD.tup_inv(h:IsD K H (.tup ds) v):∃a vs,v=.ref a/\SqT K H a vs/\IsDs K H ds vs:=let⟨a,vs,e,q,r⟩:=h.tup_invX;⟨a,vs,e,q.sqt,r⟩
def IsDs.nil:IsDs K H [] []:=⟨rfl,λi d v h=>by simp at h⟩
def IsDs.cons(h:IsD K H d v)(r:IsDs K H ds vs):IsDs K H (d::ds) (v::vs):=⟨by simp[r.len],λi e w h1 h2=>by
 cases i with
 |zero=>simp_all
 |succ i=>exact r.at' i e w (by simpa using h1) (by simpa using h2)⟩
def IsDs.get(r:IsDs K H ds vs){i:Nat}{d}(h:ds[i]?=AA d):∃v,vs[i]?=AA v/\IsD K H d v:=by
 have hi:=(Ac.mp h).1;rw[r.len]at hi;exact⟨vs[i],AM hi,r.at' i d _ h (AM hi)⟩
def IsDs.get'(r:IsDs K H ds vs){i:Nat}(h:vs[i]?=AA v):∃d,ds[i]?=AA d/\IsD K H d v:=by
 have hi:=(Ac.mp h).1;rw[<-r.len]at hi;exact⟨ds[i],AM hi,r.at' i _ v (AM hi) h⟩
def IsDs.inv_cons{d}(r:IsDs K H (d::ds) vs):∃v ws,vs=v::ws/\IsD K H d v/\IsDs K H ds ws:=by
 cases vs with
 |nil=>have:=r.len;simp at this
 |cons v ws=>exact⟨v,ws,rfl,r.at' 0 d v rfl rfl,by have:=r.len;simpa using this,λi e w h1 h2=>r.at' (i+1) e w (by simpa using h1) (by simpa using h2)⟩
def IsDs.inv_nil(r:IsDs K H [] vs):vs=[]:=by
 cases vs with
 |nil=>rfl
 |cons v ws=>have:=r.len;simp at this
def IsDs.append(r:IsDs K H ds vs)(q:IsDs K H es ws):IsDs K H (ds++es) (vs++ws):=⟨by simp[r.len,q.len],λi d v h1 h2=>by
 by_cases hi:i<ds.length
 ·rw[Aj hi]at h1;rw[Aj (r.len▸hi)]at h2;exact r.at' i d v h1 h2
 ·rw[Ad ⋯]at h1;rw[Ad (by rw[<-r.len];lia),<-r.len]at h2;exact q.at' _ d v h1 h2⟩
theorem IsDs.drop(r:IsDs K H ds vs)n:IsDs K H (ds.drop n) (vs.drop n):=⟨by simp[r.len],λi d v h1 h2=>by
 rw[List.getElem?_drop]at h1 h2;exact r.at' _ d v h1 h2⟩
theorem IsDs.take(r:IsDs K H ds vs)n:IsDs K H (ds.take n) (vs.take n):=⟨by simp[r.len],λi d v h1 h2=>by
 rw[List.getElem?_take]at h1 h2
 split at h1
 ·rename_i hi;rw[if_pos hi]at h2;exact r.at' _ d v h1 h2
 ·cases h1⟩
theorem IsDs.set(r:IsDs K H ds vs)(h:IsD K H d v)n:IsDs K H (ds.set n d) (vs.set n v):=⟨by simp[r.len],λi e w h1 h2=>by
 rw[Il]at h1 h2
 by_cases hi:n=i
 ·simp_all
 ·rw[if_neg hi]at h1 h2;exact r.at' i e w h1 h2⟩
theorem IsDs.erase:∀{ds}{vs}(r:IsDs K H ds vs)n,IsDs K H (ds.eraseIdx n) (vs.eraseIdx n)
 |[],vs,r,n=>by rw[r.inv_nil];simpa using IsDs.nil
 |d::ds,vs,r,n=>by
  obtain⟨v,ws,rfl,h1,h2⟩:=r.inv_cons;cases n with
  |zero=>simp_all
  |succ n=>simpa using IsDs.cons h1 (IsDs.erase h2 n)
theorem IsDs.rev:∀{ds}{vs}(r:IsDs K H ds vs),IsDs K H ds.reverse vs.reverse
 |[],vs,r=>r.inv_nil▸IsDs.nil
 |d::ds,vs,r=>by
  obtain⟨v,ws,rfl,h1,h2⟩:=r.inv_cons;rw[Dh,Dh];exact(IsDs.rev h2).append (IsDs.cons h1 IsDs.nil)
abbrev TK(K:AN)(H H':Hp):Prop:=((∀a xs,SqT K H a xs->SqT K H' a xs)/\∀a xs,H a=AA (.tup xs)->H' a=AA (.tup xs))/\∀a o u,H a=AA (.frz o u)->(∀vs,u≠.lst vs)->H' a=AA (.frz o u)
def SqX.keep(h:SqX K H a xs)(k:TK K H H'):SqX K H' a xs:=h.elim (λh=>.inl (k.1.2 _ _ h)) λh=>.inr ⟨h.1,k.1.1 _ _ h.2⟩
def TK.refl:TK K H H:=⟨⟨λ_ _ h=>h,λ_ _ h=>h⟩,λ_ _ _ h _=>h⟩
def TK.trans(a:TK K H H')(b:TK K H' H2):TK K H H2:=⟨⟨λc xs h=>b.1.1 c xs (a.1.1 c xs h),λc xs h=>b.1.2 c xs (a.1.2 c xs h)⟩,λc o u h n=>b.2 c o u (a.2 c o u h n) n⟩
def TK.upd'{p:AI}(h:∀xs,H p≠AA (.tup xs))(h2:∀o u,H p≠AA (.frz o u)):TK K H (upd H p o):=⟨⟨λa xs q=>by
 rcases q with(q|⟨o',q⟩)|q
 ·exact .inl (.inl (by have ne:a≠p:=(λz=>h xs (by rw[<-z];exact q));rw[e8 ne];exact q))
 ·exact .inl (.inr ⟨o',by have ne:a≠p:=(λz=>h2 _ _ (by rw[<-z];exact q));rw[e8 ne];exact q⟩)
 ·exact .inr q,λa xs q=>by have ne:a≠p:=(λz=>h xs (by rw[<-z];exact q));rw[e8 ne];exact q⟩,λa o' u q n=>by have ne:a≠p:=(λz=>h2 _ _ (by rw[<-z];exact q));rw[e8 ne];exact q⟩
def TK.new{p:AI}(h:H p=AC):TK K H (upd H p o):=TK.upd' (by rw[h];exact λ_=>nofun) (by rw[h];exact λ_ _=>nofun)
def TK.putI{p:AI}{C dx:AI}{xs:List (Str×V)}(h:H p=AA (.ins C dx xs)):TK K H (upd H p o):=TK.upd' (by rw[h];exact λ_ z=>by cases z) (by rw[h];exact λ_ _ z=>by cases z)
def TK.put{p:AI}(h:H p=AA (.lst xs)):TK K H (upd H p o):=TK.upd' (by rw[h];exact λ_ z=>by cases z) (by rw[h];exact λ_ _ z=>by cases z)
def D7.mono{cv}(h:D7 H cv)(k:TK K H H'):D7 H' cv:=let⟨c,o,u,vs,q,t,e1,e2,e3,e4⟩:=h;⟨c,o,u,vs,q,t,e1,k.2 _ _ _ e2 e3,e3,e4⟩
theorem CloR.mono{f}{fd}{np}{N}{us}(h:CloR H f fd np N us)(k:TK K H H'):CloR H' f fd np N us:=by
 obtain⟨⟨o,u,e1,e2,e3⟩,e5,e6,e7⟩:=h;refine⟨⟨o,u,k.2 _ _ _ e1 e2,e2,e3⟩,e5.mono k,λx c hx=>?_,λi v hv=>?_⟩
 ·obtain⟨o',u',w,a,b,c⟩:=e6 x c hx;exact⟨o',u',w,k.2 _ _ _ a b,b,c⟩
 ·obtain⟨x,c,o',u',w,a1,a2,a3,a4,a5⟩:=e7 i v hv;exact⟨x,c,o',u',w,a1,a2,k.2 _ _ _ a3 a4,a4,a5⟩
theorem R7.mono{f}{np}{N}{b}{us}(h:R7 H f np N b us)(k:TK K H H'):R7 H' f np N b us:=let⟨fd,ps,a,b⟩:=h;⟨fd,ps,a,b.mono k⟩
theorem IsD.mono(h:IsD K H d v)(k:TK K H H'):IsD K H' d v:=by
 induction h with
 |non=>exact .non
 |bl b=>exact .bl b
 |int i=>exact .int i
 |str x=>exact .str x
 |ref a=>exact .ref a
 |ktup h h2=>exact .ktup h h2
 |fn h=>exact .fn h
 |clo a b _ ih=>exact .clo (a.mono k) b ih
 |tup a b _ ih=>exact .tup (a.keep k) b ih
theorem IsDs.mono(h:IsDs K H ds vs)(k:TK K H H'):IsDs K H' ds vs:=⟨h.len,λi d v a b=>(h.at' i d v a b).mono k⟩
structure RelE(K:AN)(H:Hp)(env:c9)(σ:L2.St):Prop where
 len:env.length=σ.length
 at':∀(i:Nat)d,env[i]?=AA (AA d)->∃v,σ[i]?=AA (AA v)/\IsD K H d v
variable {env:c9} {st':Sto}
theorem RelE.mono(r:RelE K H env σ)(k:TK K H H'):RelE K H' env σ:=⟨r.len,λi d h=>let⟨v,a,b⟩:=r.at' i d h;⟨v,a,b.mono k⟩⟩
theorem RelE.set(r:RelE K H env σ)(h:IsD K H d v)i:RelE K H (env.set i (AA d)) (σ.set i (AA v)):=⟨by simp[r.len],λj e q=>by
 rw[Il]at q ⊢
 by_cases hi:i=j
 ·rw[if_pos hi]at q ⊢
  split at q
  ·rename_i hl;rw[<-r.len,if_pos hl];cases q;exact⟨v,rfl,h⟩
  ·cases q
 ·rw[if_neg hi]at q ⊢;exact r.at' j e q⟩
structure IsKs(K:AN)(H:Hp)(kvs:List (Key×D))(vs:List (Key×V)):Prop where
 ks:kvs.map (·.1)=vs.map (·.1)
 ds:IsDs K H (kvs.map (·.2)) (vs.map (·.2))
theorem IsKs.mono{vs:List (Key×V)}(h:IsKs K H kvs vs)(k:TK K H H'):IsKs K H' kvs vs:=⟨h.ks,h.ds.mono k⟩
theorem IsKs.inv_cons{e:Key×D}{vs:List (Key×V)}(h:IsKs K H (e::kvs) vs):∃v ws,vs=(e.1,v)::ws/\IsD K H e.2 v/\IsKs K H kvs ws:=by
 cases vs with
 |nil=>have:=h.ks;simp at this
 |cons f ws=>
  obtain⟨k,v⟩:=f;have e1:=h.ks;simp only[An,Ax]at e1;have e2:=h.ds;simp only[An]at e2;obtain⟨v',ws',e3,i1,i2⟩:=e2.inv_cons;simp only[Ax]at e3;obtain⟨rfl,rfl⟩:=e3;exact⟨v,ws,by rw[e1.1],i1,⟨e1.2,i2⟩⟩
theorem IsKs.look:∀{kvs}{vs}(h:IsKs K H kvs vs)k,z6 kvs k=AC/\p4 vs k=AC\/∃d v,z6 kvs k=AA d/\p4 vs k=AA v/\IsD K H d v
 |[],vs,h,k=>by
  have:=by have:=h.ks;simpa using this.symm
  subst this;exact .inl ⟨rfl,rfl⟩
 |e::kvs,vs,h,k=>by
  obtain⟨v,ws,rfl,i1,i2⟩:=h.inv_cons;unfold z6 p4;rw[Ds,Ds]
  by_cases hk:e.1=k
  ·simp_all
  ·simp only[hk,decide_false];exact IsKs.look i2 k
structure IsPs(K:AN)(H:Hp)(kvs:List (Ap×D))(vs:List (Ap×V)):Prop where
 ks:kvs.map (·.1)=vs.map (·.1)
 ds:IsDs K H (kvs.map (·.2)) (vs.map (·.2))
theorem IsPs.mono{kvs:List (Ap×D)}{vs:List (Ap×V)}(h:IsPs K H kvs vs)(k:TK K H H'):IsPs K H' kvs vs:=⟨h.ks,h.ds.mono k⟩
structure IsFs(K:AN)(H:Hp)(fs:List (Str×D))(vs:List (Str×V)):Prop where
 ks:fs.map (·.1)=vs.map (·.1)
 ds:IsDs K H (fs.map (·.2)) (vs.map (·.2))
theorem IsFs.nil:IsFs K H [] []:=⟨rfl,.nil⟩
theorem IsFs.mono{fs}{vs}(h:IsFs K H fs vs)(k:TK K H H'):IsFs K H' fs vs:=⟨h.ks,h.ds.mono k⟩
theorem IsFs.inv_cons{e}{fs}{vs}(h:IsFs K H (e::fs) vs):∃v ws,vs=(e.1,v)::ws/\IsD K H e.2 v/\IsFs K H fs ws:=by
 cases vs with
 |nil=>have:=h.ks;simp at this
 |cons f ws=>
  obtain⟨k,v⟩:=f;have e1:=h.ks;simp at e1;have e2:=h.ds;obtain⟨v',ws',e3,i1,i2⟩:=e2.inv_cons;simp at e3;obtain⟨rfl,rfl⟩:=e3;exact⟨v,ws,by rw[e1.1],i1,e1.2,i2⟩
theorem IsFs.cons{k}{d}{fs}{vs}(h:IsD K H d v)(r:IsFs K H fs vs):IsFs K H ((k,d)::fs) ((k,v)::vs):=⟨by simp only[An,r.ks],(.cons h r.ds)⟩
theorem IsFs.length{fs}{vs}(h:IsFs K H fs vs):fs.length=vs.length:=by simpa using h.ds.len
theorem IsFs.look:∀{fs}{vs}(h:IsFs K H fs vs)k,(fs.lookup k=AC/\vs.lookup k=AC)\/∃d v,fs.lookup k=AA d/\vs.lookup k=AA v/\IsD K H d v
 |[],vs,h,k=>by
  have:=by have:=h.ks;simpa using this.symm
  subst this;exact .inl ⟨rfl,rfl⟩
 |e::fs,vs,h,k=>by
  obtain⟨v,ws,rfl,i1,i2⟩:=h.inv_cons;obtain⟨g,d⟩:=e;rw[EE,EE];cases hk:k==g with
  |true=>exact .inr ⟨d,v,rfl,rfl,i1⟩
  |false=>exact IsFs.look i2 k
theorem IsFs.put:∀{fs}{vs}(h:IsFs K H fs vs){d}{v}(i:IsD K H d v)f,IsFs K H (g7 f d fs) (p7 f v vs)
 |[],vs,h,d,v,i,f=>by
  have:=by have:=h.ks;simpa using this.symm
  subst this;exact .cons i .nil
 |e::fs,vs,h,d,v,i,f=>by
  obtain⟨w,ws,rfl,i1,i2⟩:=h.inv_cons;obtain⟨g,x⟩:=e;unfold g7 p7
  by_cases hg:g=f
  ·rw[if_pos hg,if_pos hg];exact .cons i i2
  ·rw[if_neg hg,if_neg hg];exact .cons i1 (IsFs.put i2 i f)
abbrev ObR(K:AN)(H:Hp)(a:AI):Ob->Prop
 |.lst ds=>∃vs,H a=AA (.lst vs)/\IsDs K H ds vs
 |.fro ds=>∃vs,Rd H a (.lst vs)/\IsDs K H ds vs
 |.dct kvs=>∃vs,H a=AA (.dK vs)/\IsKs K H kvs vs
 |.dtt kvs=>∃vs,H a=AA (.dT vs)/\IsPs K H kvs vs/\Tbs.kt=AH
 |.ins c fs=>∃C dx vs,H a=AA (.ins C dx vs)/\BH K AO c=AA (AA (.ref C))/\IsFs K H fs vs
structure TabOk(H:Hp)(ps:Array AG):Prop where
 tr:ET ps.toList
 co:∀pos cv,Fy pos ps.toList=AA cv->D7 H cv
abbrev X6(H:Hp):Prop:=∀P∈Tbs.ps,∃ps,H P=AA (.tbl ps)/\TabOk H ps
def X6.stay(h:X6 H)(k:TK K H H')(t:∀a ps,H a=AA (.tbl ps)->H' a=AA (.tbl ps)):X6 H':=λP hP=>by
 obtain⟨ps,e,o⟩:=h P hP;exact⟨ps,t P ps e,o.tr,λpos cv hc=>(o.co pos cv hc).mono k⟩
structure RelS(K:AN)(st:Sto)(H:Hp):Prop where
 ob:∀a o,st a=AA o->ObR K H a o
 tb:X6 H
def RelS.free(r:RelS K st H){p:AI}(h:H p=AC):st p=AC:=by
 cases q:st p with
 |none=>rfl
 |some o=>
  have z:=r.ob p o q;cases o with
  |lst ds=>obtain⟨vs,a,_⟩:=z;rw[h]at a;cases a
  |fro ds=>
   obtain⟨vs,a|⟨o',a⟩,_⟩:=z
   ·rw[h]at a;cases a
   ·rw[h]at a;cases a
  |dct kvs=>obtain⟨vs,a,_⟩:=z;rw[h]at a;cases a
  |dtt kvs=>obtain⟨vs,a,_⟩:=z;rw[h]at a;cases a
  |ins c fs=>obtain⟨C,dx,vs,a,_⟩:=z;rw[h]at a;cases a
def RelS.sub(r:RelS K st' H)(s:Sub st st'):RelS K st H:=⟨λa o h=>r.ob a o (s a o h),r.tb⟩
theorem RelS.stay(r:RelS K st H)(k:TK K H H')(ho:∀a o,st a=AA o->H' a=H a)(t:∀a ps,H a=AA (.tbl ps)->H' a=AA (.tbl ps)):RelS K st H':=⟨λa o h=>by
 have z:=r.ob a o h;have e:=ho a o h;cases o with
 |lst ds=>obtain⟨vs,q,w⟩:=z;exact⟨vs,by rw[e];exact q,w.mono k⟩
 |fro ds=>
  obtain⟨vs,q|⟨o',q⟩,w⟩:=z
  ·exact⟨vs,.inl (by rw[e];exact q),w.mono k⟩
  ·exact⟨vs,.inr ⟨o',by rw[e];exact q⟩,w.mono k⟩
 |dct kvs=>obtain⟨vs,q,w⟩:=z;exact⟨vs,by rw[e];exact q,w.mono k⟩
 |dtt kvs=>obtain⟨vs,q,w,t⟩:=z;exact⟨vs,by rw[e];exact q,w.mono k,t⟩
 |ins c fs=>obtain⟨C,dx,vs,q,n,w⟩:=z;exact⟨C,dx,vs,by rw[e];exact q,n,w.mono k⟩,r.tb.stay k t⟩
def af8{p:AI}(h:∀ps,H p≠AA (.tbl ps)):∀a ps,H a=AA (.tbl ps)->(upd H p o) a=AA (.tbl ps):=λa ps e=>by
 have ne:a≠p:=λz=>h ps (by rw[<-z];exact e);rw[e8 ne];exact e
def bk8{p:AI}(h:H p=AC):∀a ps,H a=AA (.tbl ps)->(upd H p o) a=AA (.tbl ps):=af8 (by rw[h];exact λ_=>nofun)
theorem RelS.new(r:RelS K st H){p:AI}(h:H p=AC):RelS K st (upd H p o):=r.stay (TK.new h) (λa u e=>e8 λz=>by
 rw[z,r.free h]at e;cases e) (bk8 h)
def RelS.putAny(r:RelS K st H){p:AI}{o':HO}(tk:TK K H (upd H p o'))(w:ObR K (upd H p o') p ob)(t:∀ps,H p≠AA (.tbl ps)):RelS K (b7 st p ob) (upd H p o'):=by
 have r':RelS K (λb=>if b=p then AC else st b) H:=⟨λb u q=>by
  split at q
  ·cases q
  ·exact r.ob b u q,r.tb⟩
 have r2:=r'.stay tk (λb u q=>e8 λz=>by
  have q':(if b=p then AC else st b)=AA u:=q;rw[if_pos z]at q';cases q') (af8 t)
 refine⟨λa o e=>?_,r2.tb⟩
 by_cases ha:a=p
 ·subst ha;rw[b8]at e;cases e;exact w
 ·rw[i9 ha]at e;exact r2.ob a o (by show(if a=p then AC else st a)=AA o;rw[if_neg ha];exact e)
def RelS.putNew(r:RelS K st H){p:AI}(h:H p=AC)(w:IsDs K H ds vs):RelS K (b7 st p (.lst ds)) (upd H p (.lst vs)):=
 r.putAny (TK.new h) ⟨vs,n0,w.mono (TK.new h)⟩ (by rw[h];exact λ_=>nofun)
def RelS.putNewD(r:RelS K st H){p:AI}{ks:List (Key×V)}(h:H p=AC)(w:IsKs K H kvs ks):RelS K (b7 st p (.dct kvs)) (upd H p (.dK ks)):=
 r.putAny (TK.new h) ⟨ks,n0,w.mono (TK.new h)⟩ (by rw[h];exact λ_=>nofun)
def RelS.putOld(r:RelS K st H){p:AI}(h:H p=AA (.lst xs))(w:IsDs K H ds vs):RelS K (b7 st p (.lst ds)) (upd H p (.lst vs)):=
 r.putAny (TK.put h) ⟨vs,n0,w.mono (TK.put h)⟩ (by rw[h];exact λ_ z=>by cases z)
theorem RelS.lst(r:RelS K st H)(h:st a=AA (.lst ds)):∃vs,H a=AA (.lst vs)/\IsDs K H ds vs:=r.ob a _ h
theorem RelS.dct(r:RelS K st H)(h:st a=AA (.dct kvs)):∃vs,H a=AA (.dK vs)/\IsKs K H kvs vs:=r.ob a _ h
theorem RelS.ins(r:RelS K st H){c}{fs}(h:st a=AA (.ins c fs)):∃C dx vs,H a=AA (.ins C dx vs)/\BH K AO c=AA (AA (.ref C))/\IsFs K H fs vs:=r.ob a _ h
def RelS.rd(r:RelS K st H)(h:rdS st a ds):∃vs,SqL K H a vs/\IsDs K H ds vs:=by
 rcases h with h|h
 ·obtain⟨vs,a,b⟩:=r.ob a _ h;exact⟨vs,.inl (.inl a),b⟩
 ·obtain⟨vs,a,b⟩:=r.ob a _ h;exact⟨vs,.inl a,b⟩
def RelS.rdR(r:RelS K st H)(h:rdS st a ds):∃vs,Rd H a (.lst vs)/\IsDs K H ds vs:=by
 rcases h with h|h
 ·obtain⟨vs,a,b⟩:=r.ob a _ h;exact⟨vs,.inl a,b⟩
 ·obtain⟨vs,a,b⟩:=r.ob a _ h;exact⟨vs,a,b⟩
end
abbrev TbE(o o':HO):Prop:=o'=o\/∃p p',o=.tbl p/\o'=.tbl p'
def TbE.trans{a b c}(x:TbE a b)(y:TbE b c):TbE a c:=by
 rcases x with rfl|⟨p,p',rfl,rfl⟩
 ·exact y
 ·rcases y with rfl|⟨q,q',_,rfl⟩
  ·exact .inr ⟨p,p',rfl,rfl⟩
  ·exact .inr ⟨p,q',rfl,rfl⟩
abbrev Ev(st:Sto)(H:Hp)(st':Sto)(H':Hp):Prop:=∀a o,H a=AA o->st a=AC->(∃o',H' a=AA o'/\TbE o o')/\st' a=AC
section
variable {K:AN} {st1 st2:Sto} {H1 H2:Hp}
def Ev.get(e:Ev st H st1 H1)(h:H a=AA o)(k:st a=AC)(n:∀p,o≠.tbl p):H1 a=AA o/\st1 a=AC:=by
 obtain⟨⟨o',h',t⟩,k'⟩:=e a o h k
 rcases t with rfl|⟨p,_,rfl,_⟩
 ·exact⟨h',k'⟩
 ·exact absurd rfl (n p)
def Ev.refl:Ev st H st H:=λ_ o h k=>⟨⟨o,h,.inl rfl⟩,k⟩
theorem Ev.trans(a:Ev st H st1 H1)(b:Ev st1 H1 st2 H2):Ev st H st2 H2:=λc o h k=>by
 obtain⟨⟨o',h',t⟩,y⟩:=a c o h k;obtain⟨⟨o2,h2,t2⟩,z⟩:=b c o' h' y;exact⟨⟨o2,h2,t.trans t2⟩,z⟩
def RelS.no(r:RelS K st H)(h:H a=AA o)(n1:∀vs,o≠.lst vs)(n2:∀u vs,o≠.frz u (.lst vs))(n3:∀vs,o≠.dK vs)(n4:∀C dx vs,o≠.ins C dx vs)(n5:∀vs,o≠.dT vs):st a=AC:=by
 cases z:st a with
 |none=>rfl
 |some ob=>
  have w:=r.ob a ob z;cases ob with
  |lst ds=>obtain⟨vs,w1,_⟩:=w;rw[h]at w1;cases w1;exact absurd rfl (n1 vs)
  |fro ds=>
   obtain⟨vs,w1|⟨u,w1⟩,_⟩:=w
   ·rw[h]at w1;cases w1;exact absurd rfl (n1 vs)
   ·rw[h]at w1;cases w1;exact absurd rfl (n2 u vs)
  |dct kvs=>obtain⟨vs,w1,_⟩:=w;rw[h]at w1;cases w1;exact absurd rfl (n3 vs)
  |dtt kvs=>obtain⟨vs,w1,_⟩:=w;rw[h]at w1;cases w1;exact absurd rfl (n5 vs)
  |ins c fs=>obtain⟨C,dx,vs,w1,_⟩:=w;rw[h]at w1;cases w1;exact absurd rfl (n4 C dx vs)
def Ev.tk(e:Ev st H st1 H1)(r:RelS K st H):TK K H H1:=⟨⟨λa xs q=>by
 rcases q with(q|⟨o',q⟩)|q
 ·exact .inl (.inl (e.get q (r.no q (λ_ z=>by cases z) (λ_ _ z=>by cases z) (λ_ z=>by cases z) (λ_ _ _ z=>by cases z) (λ_ z=>by cases z)) λ_ z=>by cases z).1)
 ·exact .inl (.inr ⟨o',(e.get q (r.no q (λ_ z=>by cases z) (λ_ _ z=>by cases z) (λ_ z=>by cases z) (λ_ _ _ z=>by cases z) (λ_ z=>by cases z)) (λ_ z=>by cases z)).1⟩)
 ·exact .inr q,λa xs q=>(e.get q (r.no q (λ_ z=>by cases z) (λ_ _ z=>by cases z) (λ_ z=>by cases z) (λ_ _ _ z=>by cases z) λ_ z=>by cases z) λ_ z=>by cases z).1⟩,λa o u q n=>(e.get q (r.no q (λ_ z=>by cases z) (λ_ vs z=>by grind) (λ_ z=>by cases z) (λ_ _ _ z=>by cases z) (λ_ z=>by cases z)) λ_ z=>by cases z).1⟩
def Ev.new{p:AI}(h:H p=AC):Ev st H st (upd H p o):=λa u e k=>⟨⟨u,by rw[e8 (o6 e h)];exact e,.inl rfl⟩,k⟩
def Ev.newS{p:AI}(h:H p=AC):Ev st H (b7 st p ob) (upd H p o):=λa u e k=>⟨⟨u,by rw[e8 (o6 e h)];exact e,.inl rfl⟩,by rw[i9 (o6 e h)];exact k⟩
def Ev.put{p:AI}{ob':Ob}(h:st p=AA ob'):Ev st H (b7 st p ob) (upd H p o):=λa u e k=>by
 have ne:a≠p:=λz=>by rw[z,h]at k;cases k
 exact⟨⟨u,by rw[e8 ne];exact e,.inl rfl⟩,by rw[i9 ne];exact k⟩
def Ev.drop(s:Sub st2 st1)(e:Ev st H st1 H1):Ev st H st2 H1:=λa o h k=>by
 obtain⟨x,y⟩:=e a o h k;refine⟨x,?_⟩;cases z:st2 a with
 |none=>rfl
 |some u=>rw[s a u z]at y;cases y
end
abbrev o3(K:AN)(st:Sto)(H:Hp)(Qd:DK)(Q:VK):Prop:=∀v d H' st',Ev st H st' H'->IsD K H' d v->RelS K st' H'->Qd d st'->Q v H'
abbrev up(K:AN)(t:DT):TE:=λσ H Q=>∃env st Qd,RelE K H env σ/\RelS K st H/\t env st Qd/\o3 K st H Qd Q
abbrev upB(K:AN)(t:DB):TT:=λσ H Q=>∃env st Qd,RelE K H env σ/\RelS K st H/\t env st Qd/\∀b H' st',Ev st H st' H'->RelS K st' H'->Qd b st'->Q b H'
abbrev upA(K:AN)(n:Nat)(t:DA):TA:=λσ H Q=>∃env st Qd,RelE K H env σ/\RelS K st H/\t env st Qd/\∀vs ds H' st',Ev st H st' H'->IsDs K H' ds vs->ds.length=n->RelS K st' H'->Qd ds st'->Q vs H'
def _root_.L2.PE.imp{t t'}(h:PE X x t)(i:∀σ H Q,t' σ H Q->t σ H Q):PE X x t':=λpins s σ H Q I q=>h pins s σ H Q I (i σ H Q q)
def _root_.L2.PT.imp{t t'}(h:PT X x t)(i:∀σ H Q,t' σ H Q->t σ H Q):PT X x t':=λpins s σ H Q I q=>h pins s σ H Q I (i σ H Q q)
def _root_.L2.PW.imp{t t'}(h:PW X x t)(i:∀σ H Q,t' σ H Q->t σ H Q):PW X x t':=λw pins s σ H Q I q=>h w pins s σ H Q I (i σ H Q q)
def _root_.L2.PA.imp{x}{t t'}(h:PA X x t)(i:∀σ H Q,t' σ H Q->t σ H Q):PA X x t':=λpos pins s σ H Q I q=>h pos pins s σ H Q I (i σ H Q q)
def _root_.L2.PSs.imp{x}{t t'}(h:PSs X x t)(i:∀D σ H,t' D σ H->t D σ H):PSs X x t':=λpins s σ H D I q=>h pins s σ H D I (i D σ H q)
def _root_.L2.PS.imp{x}{t t'}(h:PS X x t)(i:∀D σ H,t' D σ H->t D σ H):PS X x t':=λpins s σ H D I q=>h pins s σ H D I (i D σ H q)
def o3.after{K}{st1}{H1}(p:o3 K st H Qd Q)(e:Ev st H st1 H1):o3 K st1 H1 Qd Q:=λv d H2 st2 e2=>p v d H2 st2 (e.trans e2)
def o3.here{K}{d}(p:o3 K st H Qd Q)i(r)q:=p v d H st Ev.refl i r q
def o3.newL{K}(p:o3 K st H Qd Q)(r:RelS K st H)(w:IsDs K H ds vs)(q:∀p,st p=AC->Qd (.ref p) (b7 st p (.lst ds))):∀l,H l=AC->Q (.ref l) (upd H l (.lst vs)):=λl hl=>
 p _ (.ref l) _ (b7 st l (.lst ds)) (Ev.newS hl) (.ref l) (r.putNew hl w) (q l (r.free hl))
def o3.newT{K}(p:o3 K st H Qd Q)(r:RelS K st H)(w:IsDs K H ds vs)(q:Qd (.tup ds) st):∀l,H l=AC->Q (.ref l) (upd H l (.tup vs)):=λl hl=>
 p _ (.tup ds) _ st (Ev.new hl) (IsD.mk (SqX.of n0) (w.mono (TK.new hl))) (r.new hl) q
def up1{K:AN}{f:D->Sto->DK->Prop}{R:V->Hp->Prop}(h:up K (λenv st Q=>t env st λd st1=>f d st1 Q) σ H Q)
  (k:∀v d H' st' Qd,IsD K H' d v->RelS K st' H'->f d st' Qd->o3 K st' H' Qd Q->R v H'):up K t σ H R:=by
 obtain⟨env,st,Qd,hE,hS,ht,hq⟩:=h;exact⟨env,st,_,hE,hS,ht,λv d H' st' ev is rs q=>k v d H' st' Qd is rs q (hq.after ev)⟩
def up2{K:AN}{u:DT}{f:D->D->Sto->DK->Prop}{R:V->V->Hp->Prop}(h:up K (λenv st Q=>t env st λd st1=>u env st1 λe st2=>f d e st2 Q) σ H Q)
  (k:∀v w d e H' st' Qd,IsD K H' d v->IsD K H' e w->RelS K st' H'->f d e st' Qd->o3 K st' H' Qd Q->R v w H'):up K t σ H λv H1=>up K u σ H1 λw H2=>R v w H2:=by
 obtain⟨env,st,Qd,hE,hS,ht,hq⟩:=h;exact⟨env,st,_,hE,hS,ht,λv d H' st' ev is rs q=>⟨env,st',_,hE.mono (ev.tk hS),rs,q,λw e H2 st2 ev2 is2 rs2 q2=>
  k v w d e H2 st2 Qd (is.mono (ev2.tk rs)) is2 rs2 q2 ((hq.after ev).after ev2)⟩⟩
def Y9{K}{n}{t}{f:List D->Sto->DK->Prop}{R}(h:up K (λenv st Q=>t env st λds st1=>f ds st1 Q) σ H Q)
  (k:∀vs ds H' st' Qd,IsDs K H' ds vs->ds.length=n->RelS K st' H'->f ds st' Qd->o3 K st' H' Qd Q->R vs H'):upA K n t σ H R:=by
 obtain⟨env,st,Qd,hE,hS,ht,hq⟩:=h;exact⟨env,st,_,hE,hS,ht,λvs ds H' st' ev is hl rs q=>k vs ds H' st' Qd is hl rs q (hq.after ev)⟩
def cn9(h:PE X x (up X.K t))(he:∀whole,Hf x X.env whole=(do let v <-whole;HS x.pos;holding [v] (truthy v))):
  PT X x (upB X.K λenv st Q=>t env st λd st'=>∃b,d=.bl b/\Q b st'):=PT.imp (b54 h he) λσ H Q q=>by
 obtain⟨env,st,Qd,hE,hS,ht,hq⟩:=q;refine⟨env,st,_,hE,hS,ht,λv d H' st' ev is rs q=>?_⟩;obtain⟨b,rfl,q⟩:=q;cases is;exact⟨b,rfl,hq b H' st' ev rs q⟩
end Ek
namespace Ek
open PySem PySem.Spec PyProof.Rows L2
variable [Tbs]
mutual
theorem F4:∀d:D,d.pure=AB->d.py.canLay0=AB
 |.non,_=>rfl
 |.bl _,_=>rfl
 |.int _,_=>rfl
 |.str _,h=>h
 |.tup ds,h=>by show DH (D.pys ds)=AB;exact W5 ds h
 |.ref _,h=>nomatch h
 |.fn _,h=>nomatch h
 |.clo _ _ _ _,h=>nomatch h
 |.ktup _,h=>nomatch h
theorem W5:∀ds:List D,D.pures ds=AB->DH (D.pys ds)=AB
 |[],_=>rfl
 |d::r,h=>by
  have h':d.pure=AB/\D.pures r=AB:=by simpa[D.pures]using h
  show(d.py.canLay0&&DH (D.pys r))=AB;rw[F4 d h'.1,W5 r h'.2];rfl
end
section
variable {X:Cx} {pins:List (AI×Obj)} {σ:L2.St} {H:Hp} {s:AL}
def C9(I:L2.Inv X pins σ H s){d:D}{v:V}(h:IsD X.K H d v):∀{u:AG},d.pure=AB->c8 v u->∃as,Reads s.heap u d.py as:=by
 induction h with
 |non=>intro u _ r;cases r;exact⟨_,.none⟩
 |bl b=>intro u _ r;cases r;exact⟨_,.bool b⟩
 |int i=>intro u _ r;obtain⟨t,rfl⟩:=r;exact⟨_,.int i t⟩
 |str x=>intro u _ r;obtain⟨t,rfl⟩:=r;exact⟨_,.str x t⟩
 |ref a=>intro u h;cases h
 |fn _=>intro u h;cases h
 |clo _ _ _ _=>intro u h;cases h
 |ktup _ _=>intro u h;cases h
 |@tup a ds vs hq hl hat ih=>
  intro u hp r;cases r;obtain⟨its,rv,⟨o,ho,hc,n,hd⟩,hz⟩:=I.tuple hq.sqt;have all:∀(ds':List D)(vs':List V)(us':List AG),(∀(i:Nat)d v,ds'[i]?=AA d->vs'[i]?=AA v->∀{u:AG},d.pure=AB->c8 v u->∃as,Reads s.heap u d.py as)->ds'.length=vs'.length->D.pures ds'=AB->c0 vs' us'->∃as,ReadsAll s.heap us' (D.pys ds') as:=by
   intro ds'
   induction ds' with
   |nil=>intro vs' us' _ hl' _ q;cases vs' with
    |nil=>cases q;exact⟨[],.nil⟩
    |cons a b=>simp at hl'
   |cons e es ihe=>
    intro vs' us' hat' hl' hp' q;cases vs' with
    |nil=>simp at hl'
    |cons w ws=>
     have hp2:e.pure=AB/\D.pures es=AB:=by simpa[D.pures]using hp'
     cases q with
     |cons q1 q2=>
      obtain⟨as,ra⟩:=hat' 0 e w rfl rfl hp2.1 q1;obtain⟨bs,rb⟩:=ihe ws _ (λi d v a b=>hat' (i+1) d v (by simpa using a) (by simpa using b)) (by simpa using hl') hp2.2 q2;exact⟨as++bs,.cons ra rb⟩
  obtain⟨as,ra⟩:=all ds vs its ih hl hp rv;exact⟨as,.tuple ho hc hd (by simp_all)⟩
def aw1{A:BP}{a b:Nat}(hu:A.units+2200<Cm)(h:ES a b<=2000):A.units+min a b<Cm:=by
 have:min a b<=2000:=h;lia
def b62(hu:X.A.units+2200<Cm):OpR X (CJ .Eq) (λx y H Q=>∃d e,IsD X.K H d x/\IsD X.K H e y/\d.pure=AB/\e.pure=AB/\ES (i5 d) (i5 e)<=2000/\Q (.bl (deq d e)) H):=by
 intro pins s σ H x y v u Q I rx ry h;obtain⟨d,e,h1,h2,p1,p2,hd,q⟩:=h;obtain⟨as,ra⟩:=C9 I h1 p1 rx;obtain⟨bs,rb⟩:=C9 I h2 p2 ry;exact SeqAt.rcAt_reads ra rb (F4 d p1) (F4 e p2) (aw1 hu hd) X.prog X.w _ _ ⟨.bl (deq d e),H,I,rfl,q⟩
def cb7(hu:X.A.units+2200<Cm):OpR X (CJ .NotEq) (λx y H Q=>∃d e,IsD X.K H d x/\IsD X.K H e y/\d.pure=AB/\e.pure=AB/\ES (i5 d) (i5 e)<=2000/\Q (.bl (!deq d e)) H):=by
 intro pins s σ H x y v u Q I rx ry h;obtain⟨d,e,h1,h2,p1,p2,hd,q⟩:=h;obtain⟨as,ra⟩:=C9 I h1 p1 rx;obtain⟨bs,rb⟩:=C9 I h2 p2 ry;exact SeqAt.rcNeAt_reads ra rb (F4 d p1) (F4 e p2) (aw1 hu hd) X.prog X.w _ _ ⟨.bl (!deq d e),H,I,rfl,q⟩
theorem af2:∀ds(x),((D.pys ds).any λy=>BC y x.py)=ds.any λy=>deq y x
 |[],_=>rfl
 |d::r,x=>by
  show(BC d.py x.py||(D.pys r).any _)=(deq d x||r.any _);rw[af2 r x];rfl
def ay8{A:BP}{a b:Nat}(hu:A.units+2200<Cm)(h:b<=2000):A.units+1+min a b<Cm:=by
 have:min a b<=b:=Iz _ _;lia
def a64(hu:X.A.units+2200<Cm):OpR X (CJ .In) (λx y H Q=>∃d es,IsD X.K H d x/\IsD X.K H (.tup es) y/\d.pure=AB/\D.pures es=AB/\i5 d<=2000/\Q (.bl (es.any λe=>deq e d)) H):=by
 intro pins s σ H x y v u Q I rx ry h;obtain⟨d,es,h1,h2,p1,p2,hd,q⟩:=h;obtain⟨as,ra⟩:=C9 I h1 p1 rx;obtain⟨bs,rb⟩:=C9 I h2 p2 ry;have rb':Reads s.heap u (.tuple (D.pys es)) bs:=rb;exact SeqAt.in_tuple_reads rb' ra (W5 es p2) (F4 d p1) (ay8 hu hd) (by rw[af2];exact⟨.bl _,H,I,rfl,q⟩)
def aw2(hu:X.A.units+2200<Cm):OpR X (CJ .NotIn) (λx y H Q=>∃d es,IsD X.K H d x/\IsD X.K H (.tup es) y/\d.pure=AB/\D.pures es=AB/\i5 d<=2000/\Q (.bl (!es.any λe=>deq e d)) H):=by
 intro pins s σ H x y v u Q I rx ry h;obtain⟨d,es,h1,h2,p1,p2,hd,q⟩:=h;obtain⟨as,ra⟩:=C9 I h1 p1 rx;obtain⟨bs,rb⟩:=C9 I h2 p2 ry;have rb':Reads s.heap u (.tuple (D.pys es)) bs:=rb;exact SeqAt.notIn_tuple_reads rb' ra (W5 es p2) (F4 d p1) (ay8 hu hd) (by rw[af2];exact⟨.bl _,H,I,rfl,q⟩)
end
end Ek
namespace PySem
def bb3:fillsNumberSlot (.type "tuple") "mul"=pure AH:=
 fillsNumberSlot_seq (id:="tuple.__mul__") (r:=AA (.builtin "tuple.__rmul__")) F.slot_tuple_mul.lookup (by decide+kernel) F.slot_tuple_rmul.lookup (by decide+kernel)
def bc2:seqRepeat? (.type "tuple")=pure (AA (.builtin "tuple.__mul__")):=by
 unfold seqRepeat?;rw[seqSlot_of (T:="tuple") (name:="__mul__") (id:="tuple.__mul__") F.slot_tuple_mul.lookup (by decide+kernel),seqSlot_of (T:="tuple") (name:="__rmul__") (id:="tuple.__rmul__") F.slot_tuple_rmul.lookup (by decide+kernel)];rfl
def bb7(a:Int)(t:Tok)(l:AI)(xs:Array AG)(n:Nat)(dd:Option AI)(sl:Array (Option AG)):
  LD (DR.«int.__rmul__» ⟨[.int a t,.ref l],[]⟩) (λ_ R s=>s.heap.get? l=AA {cls:=.type "tuple",dict:=dd,data:=.seq xs n,slots:=sl}/\R (.ok (.ret Value.notImplemented)) s):=
 .of_wp λprog w A R s h=>by obtain⟨hl,h⟩:=h;wp_walk;exact⟨_,rfl,h⟩
def bh0(l:AI)(xs:Array AG)(n:Nat)(dd:Option AI)(sl:Array (Option AG))(k:Int)(u:Tok)(h0:xs.isEmpty=AH)(h1:2<=k)(h2:k<2^63)(hz:xs.size*k.toNat<=sizeLine):
  LD (DR.«tuple.__mul__» ⟨[.ref l,.int k u],[]⟩) (λ_ R s=>s.heap.get? l=AA {cls:=.type "tuple",dict:=dd,data:=.seq xs n,slots:=sl}/\R (.ok (.ret (Az s.heap.objs.size))) {s with heap:=s.heap.push {cls:=Db "tuple",data:=Data.seq (FX (λx1 x2=>x1++x2) #[] (AY k.toNat xs))},toks:=s.toks}):=
 .of_wp λprog w A R s h=>by
  obtain⟨hl,h⟩:=h;have c1:(AE (k < -(2^63))||AE (k>=2^63))=AH:=by lia
  have c2:(xs.isEmpty||k==1)=AH:=by rw[h0];lia
  have c3:(AE (k<=0)||xs.isEmpty)=AH:=by lia
  have e4:(xs.size:Int)*k=((xs.size*k.toNat:Nat):Int):=by rw[JS,Int.toNat_of_nonneg ⋯]
  have c4:¬((xs.size:Int)*k>(2^63-1) / 8):=by
   rw[e4];have:(sizeLine:Nat)<=(2^63-1) / 8:=by decide
   lia
  have c5:FV ((xs.size:Int)*k)=AH:=by
   rw[e4];exact decide_eq_false ⋯
  refine AD (AJ ?_);rw[c1];refine AD (AD (EX hl rfl (AJ ?_)));rw[c2,c3];rw[if_neg c4,c5];refine AD (BM (AJ ⟨_,rfl,h⟩) ?_);have hs:(FX (λx1 x2=>x1++x2) #[] (AY k.toNat xs)).size=k.toNat*xs.size:=by
   have:=L2.ac9 xs.toList k.toNat [];rw[show((#[]:Array AG))=([]:List AG).toArray from rfl,this];simp[L2.aw6]
  show(FX (λx1 x2=>x1++x2) #[] (AY k.toNat xs)).size<=sizeLine;rw[hs,JD];exact hz
def be9 l(xs:Array AG)n(dd:Option AI)(sl:Array (Option AG))u:
  LD (DR.«tuple.__mul__» ⟨[.ref l,.int 1 u],[]⟩) (λ_ R s=>s.heap.get? l=AA {cls:=.type "tuple",dict:=dd,data:=.seq xs n,slots:=sl}/\R (.ok (.ret (Az l))) s):=
 .of_wp λprog w A R s h=>by
  obtain⟨hp,g,d,tk,os⟩:=s;obtain⟨hl,h⟩:=h;have hT:(⟨hp,g,d,tk,os⟩:AL).TypeIs (.ref l) "tuple":=⟨_,hl,rfl⟩;refine AD (AJ ?_);refine AD (AD (EX hl rfl (AJ ?_)));rw[if_pos ∎];refine AD (AD (Ig hT (AJ ?_)));exact AD (HZ (AJ ⟨_,rfl,h⟩))
end PySem
namespace L2
open PySem PySem.Spec PyProof.Rows
variable {X:Cx}
abbrev ch2(K:AN):R2:=λx y H Q=>∃a k xs,x=.ref a/\y=.int k/\SqT K H a xs/\xs≠[]/\1<=k/\k<2^62/\xs.length*k.toNat<=sizeLine /\
 (k=1->Q (.ref a) H)/\(k≠1->∀p,H p=AC->Q (.ref p) (upd H p (.tup (AY k.toNat xs).flatten)))
def bw0:OpR X (Cr .Mult) (ch2 X.K):=by
 intro pins s σ H x y v u Q I rx ry h;obtain⟨a,k,xs,rfl,rfl,ha,hne,h1,h2,hz,q1,q2⟩:=h;cases rx;obtain⟨t,rfl⟩:=ry;obtain⟨its,r,p1,hl⟩:=I.tuple ha;obtain⟨⟨cls,dd,data,sl⟩,ho,hc,n,hd⟩:=id p1;simp only at hc hd;subst hc hd;have hlen:=r.length;have go:∀{R:AG->AL->Prop},AV (model X.prog X.w) X.A (call (.builtin "tuple.__mul__") [.ref a,.int k t]) R X.xe s->AV (model X.prog X.w) X.A (Cr .Mult (.ref a) (.int k t)) R X.xe s:=λhh=>
  wpAny_binaryOp_repeat_ref (T:="tuple") (U:="int") ∅ ⟨_,ho,rfl⟩ (λs'=>Jc s' k t) bb3 F.fills_int_mul F.slot_int_rmul bc2 F.slot_int_index.lookup
   (DV F.slot_int_rmul (Jc s k t) F.entry_int_rmul (F.args_int_rmul_2 _ _) (bb7 k t a its.toArray n dd sl) ⟨ho,rfl,⟨_,ho,rfl⟩,hh⟩)
 by_cases hk:k=1
 ·subst hk;exact go (DV F.slot_tuple_mul ⟨_,ho,rfl⟩ F.entry_tuple_mul (F.args_tuple_mul_2 _ _) (be9 a its.toArray n dd sl t) ⟨ho,⟨.ref a,H,I,rfl,q1 rfl⟩⟩)
 ·have hie:its.toArray.isEmpty=AH:=by
   cases its with
   |nil=>exact absurd (Bs hlen) hne
   |cons a b=>simp
  refine go (DV F.slot_tuple_mul ⟨_,ho,rfl⟩ F.entry_tuple_mul (F.args_tuple_mul_2 _ _) (bh0 a its.toArray n dd sl k t hie ⋯ ⋯ (by rw[Aa,<-hlen];exact hz)) ⟨ho,?_⟩);have hnew:FX (λx1 x2=>x1++x2) #[] (AY k.toNat its.toArray)=(AY k.toNat its).flatten.toArray:=by
   have:=ac9 its k.toNat [];rw[Ed]at this;exact this
  rw[hnew];refine⟨.ref _,_,I.laid (t':=s.toks) (o:=.tup (AY k.toNat xs).flatten) (λb o e=>AQ _ e) (AW _) ⟨?_,_,r.rep k.toNat,⟨_,Ai _ rfl,rfl,rfl,_,rfl⟩⟩,rfl,q2 hk _ I.fresh⟩;rw[aw6,JD];exact hz
end L2
namespace Ek
open PySem PySem.Spec PyProof.Rows L2
variable [Tbs]
variable{x:AR}{v:V}{i:Int}{n:Nat}{t:DA}{H:Hp}{o:Eo}
section
variable {X:Cx} {a b c:AR} {ta tb tc:DT} {pos:Pos}
def Z3{d}(h:PE X x (tC v))(i:∀H,IsD X.K H d v):PE X x (up X.K λ_ st Q=>Q d st):=PE.imp h λσ H Q q=>by
 obtain⟨env,st,Qd,hE,hS,ht,hq⟩:=q;exact hq.here (i H) hS ht
def a51{i:Nat}{x}(hN:X.N[i]?=AA x)(hv:Vis X.env.scope x)(hd:(x=="__debug__")=AH)(hcd:(x=="__classdict__")=AH):PE X (.Name x pos) (up X.K λenv st Q=>∃d,env[i]?=AA (AA d)/\Q d st):=
 PE.imp (ag3 hN hv hd hcd) λσ H Q q=>by
  obtain⟨env,st,Qd,hE,hS,⟨d,h1,ht⟩,hq⟩:=q;obtain⟨v,h2,is⟩:=hE.at' i d h1;exact⟨v,h2,hq.here is hS ht⟩
def k5{xs}{env}(h:∀e p,x≠.Starred e p):Am (x::xs) env=(AH,eval x env)::Am xs env:=by
 cases x<;>first|rfl|exact absurd rfl (h _ _)
def ag1:PA X [] (upA X.K 0 λ_ st Q=>Q [] st):=PA.imp az9 λσ H Q q=>by
 obtain⟨env,st,Qd,hE,hS,ht,hq⟩:=q;exact hq [] [] H st Ev.refl .nil rfl hS ht
def L5{es:List AR}(ha:PE X a (up X.K ta))(hr:PA X es (upA X.K n t))(h:∀e p,a≠.Starred e p):PA X (a::es) (upA X.K (n+1) λenv st Q=>ta env st λd st1=>t env st1 λds st2=>Q (d::ds) st2):=
 PA.imp (af4 ha hr (k5 h)) λσ H Q q=>by
  obtain⟨env,st,Qd,hE,hS,ht,hq⟩:=q;exact⟨env,st,_,hE,hS,ht,λv d H1 st1 ev is rs q1=>⟨env,st1,_,hE.mono (ev.tk hS),rs,q1,λvs ds H2 st2 ev2 is2 hl rs2 q2=>
   hq (v::vs) (d::ds) H2 st2 (ev.trans ev2) (.cons (is.mono (ev2.tk rs)) is2) (by simp[hl]) rs2 q2⟩⟩
def ce7{es:List AR}{k:Nat}(h:PA X es (upA X.K n t))(hn:n<=1000):PE X (.Tuple es k pos) (up X.K λenv st Q=>t env st λds st1=>Q (.tup ds) st1):=
 PE.imp (cb2 h) λσ H Q q=>Y9 (f:=λds st1 Q=>Q (.tup ds) st1) q λvs ds H' st' Qd is hl rs ht hq=>⟨by rw[<-is.len,hl];exact DJ (ao2 hn),hq.newT rs is ht⟩
def a62{es:List AR}(h:PA X es (upA X.K n t))(hn:n<=1000):PE X (.List es pos) (up X.K λenv st Q=>t env st λds st1=>∀p,st1 p=AC->Q (.ref p) (b7 st1 p (.lst ds))):=
 PE.imp (cf8 h) λσ H Q q=>Y9 (f:=λds st1 Q=>∀p,st1 p=AC->Q (.ref p) (b7 st1 p (.lst ds))) q λvs ds H' st' Qd is hl rs ht hq=>⟨by rw[<-is.len,hl];exact DJ (ao2 hn),hq.newL rs is ht⟩
def IsD.int_inv{K}(h:IsD K H (.int i) v):v=.int i:=by cases h;rfl
def IsD.str_inv{K}{i}(h:IsD K H (.str i) v):v=.str i:=by cases h;rfl
def IsD.bl_inv{K}{i}(h:IsD K H (.bl i) v):v=.bl i:=by cases h;rfl
def IsD.ref_inv{K}{i}(h:IsD K H (.ref i) v):v=.ref i:=by cases h;rfl
def b09{k}(h:n<2^k)h0:=(Nat.log2_lt h0).mpr h
def ay0(h:i.natAbs<2^20000):DZ i<=20000:=by
 unfold DZ
 by_cases h0:i=0
 ·subst h0;exact Ao _
 ·rw[if_neg (by simp_all)];exact b09 h ⋯
theorem G0.ok{j}(h:G0 i j):Kl i j:=by
 rcases h with h|⟨h1,h2⟩
 ·exact h.ok
 ·have b1:=ay0 h1;have b2:=ay0 h2;unfold Kl;have:Ga (DZ i+DZ j)=AH:=by
   unfold Ga;have:40000<=bitsLine:=by decide
   lia
  first
   |simp_all
   |grind
def b12:OpR X (Cr .Mult) (rI G0 λi j=>.int (i*j)):=opI λ_ _ _ _ _ _ _ hc q=>mul_int q hc.ok
theorem _root_.Ek.IsDs.repl{K}{xs}{vs}(r:IsDs K H xs vs):∀n,IsDs K H (AY n xs).flatten (AY n vs).flatten
 |0=>.nil
 |n+1=>r.append (r.repl n)
def b80{o:FE}(ha:PE X a (up X.K ta))(hb:PE X b (up X.K tb)):PE X (.BinOp a o b pos) (up X.K λenv st Q=>ta env st λx st1=>tb env st1 λy st2=>t6 o x y st2 Q):=by
 cases o with
 |Add=>
  refine PE.imp (G5 (cf0.or (b21.or b34)) ha hb) λσ H Q q=>up2 (f:=t6 .Add) q λv w d e H' st' Qd i1 i2 rs ht hq=>?_;cases d<;>first|exact AT ht|(cases e<;>first|exact AT ht|skip)
  ·exact .inl ⟨_,_,i1.int_inv,i2.int_inv,hq.here (.int _) rs ht⟩
  ·rename_i xs ys;obtain⟨p,vs,e1,q1,r1⟩:=i1.tup_invX;obtain⟨q',ws,e2,q2,r2⟩:=i2.tup_invX;refine .inr (.inl ⟨p,q',vs,ws,e1,e2,q1.sqt,q2.sqt,by rw[<-r1.len,<-r2.len];exact ht.1,λz=>?_,λz1 z2=>?_,λ_ _=>hq.newT rs (r1.append r2) ht.2⟩)
   ·have:xs=[]:=by rw[z]at r1;have:=r1.len;exact Bs (by simpa using this)
    subst this;exact hq.here (IsD.mk q2 r2) rs ht.2
   ·have:ys=[]:=by rw[z2]at r2;have:=r2.len;exact Bs (by simpa using this)
    subst this;have h2:=ht.2;rw[Be]at h2;exact hq.here (IsD.mk q1 r1) rs h2
  ·obtain⟨xs,ys,s1,s2,hz,h2⟩:=ht;obtain⟨vs,e1,r1⟩:=rs.lst s1;obtain⟨ws,e2,r2⟩:=rs.lst s2;exact .inr (.inr ⟨_,_,vs,ws,i1.ref_inv,i2.ref_inv,e1,e2,by rw[<-r1.len,<-r2.len];exact hz,hq.newL rs (r1.append r2) h2⟩)
 |Sub=>
  refine PE.imp (G5 cf7 ha hb) λσ H Q q=>up2 (f:=t6 .Sub) q λv w d e H' st' Qd i1 i2 rs ht hq=>?_;cases d<;>first|exact AT ht|(cases e<;>first|exact AT ht|skip)
  exact⟨_,_,i1.int_inv,i2.int_inv,hq.here (.int _) rs ht⟩
 |Mult=>
  refine PE.imp (G5 (b12.or bw0) ha hb) λσ H Q q=>up2 (f:=t6 .Mult) q λv w d e H' st' Qd i1 i2 rs ht hq=>?_;cases d<;>first|exact AT ht|(cases e<;>first|exact AT ht|skip)
  ·exact .inl ⟨_,_,i1.int_inv,i2.int_inv,ht.1,hq.here (.int _) rs ht.2⟩
  ·rename_i xs k;obtain⟨p,vs,e1,q1,r1⟩:=i1.tup_invX;obtain⟨h0,h1,h2,h3,ht⟩:=ht;refine .inr ⟨p,k,vs,e1,i2.int_inv,q1.sqt,λz=>h0 (by rw[z]at r1;exact Bs (by simpa using r1.len)),h1,h2,by rw[<-r1.len];exact h3,λz=>?_,λ_=>hq.newT rs (r1.repl k.toNat) ht⟩;subst z;have ht':Qd (.tup xs) st':=by simpa using ht
   exact hq.here (IsD.mk q1 r1) rs ht'
 |Mod=>
  refine PE.imp (G5 b26 ha hb) λσ H Q q=>up2 (f:=t6 .Mod) q λv w d e H' st' Qd i1 i2 rs ht hq=>?_;cases d<;>first|exact AT ht|(cases e<;>first|exact AT ht|skip)
  exact⟨_,_,i1.int_inv,i2.int_inv,ht.1,hq.here (.int _) rs ht.2⟩
 |FloorDiv=>
  refine PE.imp (G5 bq0 ha hb) λσ H Q q=>up2 (f:=t6 .FloorDiv) q λv w d e H' st' Qd i1 i2 rs ht hq=>?_;cases d<;>first|exact AT ht|(cases e<;>first|exact AT ht|skip)
  exact⟨_,_,i1.int_inv,i2.int_inv,ht.1,hq.here (.int _) rs ht.2⟩
 |Pow=>
  refine PE.imp (G5 b91 ha hb) λσ H Q q=>up2 (f:=t6 .Pow) q λv w d e H' st' Qd i1 i2 rs ht hq=>?_;cases d<;>first|exact AT ht|(cases e<;>first|exact AT ht|skip)
  exact⟨_,_,i1.int_inv,i2.int_inv,ht.1,hq.here (.int _) rs ht.2⟩
 |_=>
  refine PE.imp (G5 (op:=_) (r:=λ_ _ _ _=>False) (λ_ _ _ _ _ _ _ _ _ _ _ _ h=>h.elim) ha hb) λσ H Q q=>up2 (f:=λ_ _ _ _=>False) (by
   obtain⟨env,st,Qd,hE,hS,ht,hq⟩:=q;exact⟨env,st,Qd,hE,hS,ht,hq⟩) λv w d e H' st' Qd i1 i2 rs ht hq=>ht
def b42(ha:PE X a (up X.K ta)):PE X (.UnaryOp .USub a pos) (up X.K λenv st Q=>ta env st λx st1=>∃i,x=.int i/\Q (.int (-i)) st1):=
 PE.imp (cq4 cf3 ha) λσ H Q q=>up1 q λv d H' st' Qd is rs ht hq=>by
  obtain⟨i,rfl,ht⟩:=ht;exact⟨i,is.int_inv,hq.here (.int _) rs ht⟩
abbrev al2(X:Cx):Eo->R2
 |.Eq=>λx y H Q=>∃d e,IsD X.K H d x/\IsD X.K H e y/\d.pure=AB/\e.pure=AB/\ES (i5 d) (i5 e)<=2000/\Q (.bl (deq d e)) H
 |.NotEq=>λx y H Q=>∃d e,IsD X.K H d x/\IsD X.K H e y/\d.pure=AB/\e.pure=AB/\ES (i5 d) (i5 e)<=2000/\Q (.bl (!deq d e)) H
 |.Lt=>rI0 λi j=>.bl (AE (i<j))
 |.LtE=>rI0 λi j=>.bl (AE (i<=j))
 |.Gt=>rI0 λi j=>.bl (AE (j<i))
 |.GtE=>rI0 λi j=>.bl (AE (j<=i))
 |.In=>λx y H Q=>(∃d es,IsD X.K H d x/\IsD X.K H (.tup es) y/\d.pure=AB/\D.pures es=AB/\i5 d<=2000/\Q (.bl (es.any λe=>deq e d)) H)\/(∃(k:Key)(ks:List Key)(a:AI),x=kV k/\y=.ref a/\(kD k).pure=AB/\SqT X.K H a (ks.map kV)/\D.pures (ks.map kD)=AB/\Q (.bl (ks.any λl=>AE (l=k))) H)\/∃a k kvs,x=kV k/\y=.ref a/\H a=AA (.dK kvs)/\Q (.bl (p4 kvs k).isSome) H
 |.NotIn=>λx y H Q=>(∃d es,IsD X.K H d x/\IsD X.K H (.tup es) y/\d.pure=AB/\D.pures es=AB/\i5 d<=2000/\Q (.bl (!es.any λe=>deq e d)) H)\/(∃(k:Key)(ks:List Key)(a:AI),x=kV k/\y=.ref a/\(kD k).pure=AB/\SqT X.K H a (ks.map kV)/\D.pures (ks.map kD)=AB/\Q (.bl (!ks.any λl=>AE (l=k))) H)\/∃a k kvs,x=kV k/\y=.ref a/\H a=AA (.dK kvs)/\Q (.bl (!(p4 kvs k).isSome)) H
 |.Is=>λx y H Q=>∃b c,x=.bl b/\y=.bl c/\Q (.bl (b==c)) H
 |.IsNot=>λx y H Q=>∃b c,x=.bl b/\y=.bl c/\Q (.bl (b != c)) H
omit [Tbs]in
def ai5 [Tbs]{K:AN}:∀k:Key,IsD K H (kD k) (kV k)
 |.inl i=>.int i
 |.inr x=>.str x
omit [Tbs]in
theorem af7 [Tbs]{K:AN}:∀ks:List Key,IsDs K H (ks.map kD) (ks.map kV)
 |[]=>.nil
 |k::r=>.cons (ai5 k) (af7 r)
omit [Tbs]in
def cr1:∀{k l:Key},deq (kD k) (kD l)=AE (k=l)
 |.inl i,.inl j=>by show deq (.int i) (.int j)=_;unfold deq D.py BC;exact Ex.mpr ∎
 |.inr i,.inr j=>by show deq (.str i) (.str j)=_;unfold deq D.py BC;exact Ex.mpr ∎
 |.inl i,.inr j=>by show deq (.int i) (.str j)=_;unfold deq D.py BC;exact(decide_eq_false nofun).symm
 |.inr i,.inl j=>by show deq (.str i) (.int j)=_;unfold deq D.py BC;exact(decide_eq_false nofun).symm
omit [Tbs]in
def a61{k:Key}(ks:List Key):((ks.map kD).any λe=>deq e (kD k))=ks.any λl=>AE (l=k):=by
 rw[List.any_map];exact congrArg _ (funext λl=>cr1)
omit [Tbs]in
def ba1:∀{k:Key},i5 (kD k)<=2000
 |.inl _=>Ao _
 |.inr _=>Ao _
omit [Tbs]in
def a41{b c:Bool}:((FS b:AG)==.bool c)=(b==c):=by cases b<;>cases c<;>rfl
def ax1(hu:X.A.units+2200<Cm):∀o:Eo,OpR X (CJ o) (al2 X o)
 |.Eq=>b62 hu
 |.NotEq=>cb7 hu
 |.Lt=>cp8
 |.LtE=>cl4
 |.Gt=>cm6
 |.GtE=>ch6
 |.In=>λpins s σ H x y v u Q I rx ry h=>by
  rcases h with h|⟨k,ks,a,rfl,rfl,p1,sq,p2,q⟩|⟨a,k,kvs,rfl,rfl,e,q⟩
  ·exact a64 hu pins s σ H x y v u Q I rx ry h
  ·letI T:Tbs:=⟨[],λ_ _ _ _=>True,AB⟩
   exact @a64 T X hu pins s σ H _ _ v u Q I rx ry ⟨kD k,ks.map kD,ai5 k,IsD.mk (.inr ⟨rfl,sq⟩) (af7 ks),p1,p2,ba1,by rw[a61];exact q⟩
  ·cases ry;exact cu7 ⋯ I (A1.k e) rx λs' I'=>⟨.bl _,H,I',rfl,q⟩
 |.NotIn=>λpins s σ H x y v u Q I rx ry h=>by
  rcases h with h|⟨k,ks,a,rfl,rfl,p1,sq,p2,q⟩|⟨a,k,kvs,rfl,rfl,e,q⟩
  ·exact aw2 hu pins s σ H x y v u Q I rx ry h
  ·letI T:Tbs:=⟨[],λ_ _ _ _=>True,AB⟩
   exact @aw2 T X hu pins s σ H _ _ v u Q I rx ry ⟨kD k,ks.map kD,ai5 k,IsD.mk (.inr ⟨rfl,sq⟩) (af7 ks),p1,p2,ba1,by rw[a61];exact q⟩
  ·cases ry;exact by0 ⋯ I (A1.k e) rx λs' I'=>⟨.bl _,H,I',rfl,q⟩
 |.Is=>λpins s σ H x y v u Q I rx ry h=>by
  obtain⟨b,c,rfl,rfl,q⟩:=h;cases rx;cases ry;exact wpAny_is_plain rfl (by rw[a41];exact⟨.bl _,H,I,rfl,q⟩)
 |.IsNot=>λpins s σ H x y v u Q I rx ry h=>by
  obtain⟨b,c,rfl,rfl,q⟩:=h;cases rx;cases ry;exact wpAny_isNot_plain rfl (by rw[a41];exact⟨.bl _,H,I,rfl,q⟩)
omit [Tbs]in
def _root_.L2.SqT.k{K:AN}{a:AI}{xs:List V}(h:SqT K (λ_=>AC) a xs):SqT K H a xs:=h.elim (λz=>by rcases z with z|⟨_,z⟩<;>cases z) .inr
def a44{w:V}{d e:D}{H':Hp}{st':Sto}{Qd:DK}{Q:VK}(i1:IsD X.K H' d v)(i2:IsD X.K H' e w)(rs:RelS X.K st' H')(ht:i6 o d e st' Qd)(hq:o3 X.K st' H' Qd Q):al2 X o v w H' Q:=by
 cases o with
 |Eq=>exact⟨d,e,i1,i2,ht.1,ht.2.1,ht.2.2.1,hq.here (.bl _) rs ht.2.2.2⟩
 |NotEq=>exact⟨d,e,i1,i2,ht.1,ht.2.1,ht.2.2.1,hq.here (.bl _) rs ht.2.2.2⟩
 |Lt=>cases d<;>first|exact AT ht|(cases e<;>first|exact AT ht|exact⟨_,_,i1.int_inv,i2.int_inv,hq.here (.bl _) rs ht⟩)
 |LtE=>cases d<;>first|exact AT ht|(cases e<;>first|exact AT ht|exact⟨_,_,i1.int_inv,i2.int_inv,hq.here (.bl _) rs ht⟩)
 |Gt=>cases d<;>first|exact AT ht|(cases e<;>first|exact AT ht|exact⟨_,_,i1.int_inv,i2.int_inv,hq.here (.bl _) rs ht⟩)
 |GtE=>cases d<;>first|exact AT ht|(cases e<;>first|exact AT ht|exact⟨_,_,i1.int_inv,i2.int_inv,hq.here (.bl _) rs ht⟩)
 |In=>
  have hd:∀(k:Key)(a:AI)(kvs:List (Key×D)),v=kV k->w=.ref a->st' a=AA (.dct kvs)->Qd (.bl (z6 kvs k).isSome) st'->al2 X .In v w H' Q:=λk a kvs e1 e2 e3 ht=>by
   obtain⟨vs,h1,h2⟩:=rs.dct e3;refine .inr (.inr ⟨a,k,vs,e1,e2,h1,?_⟩)
   rcases h2.look k with⟨l1,l2⟩|⟨d,v,l1,l2,_⟩<;>(rw[l1]at ht;rw[l2];exact hq.here (.bl _) rs ht)
  cases e with
  |tup es=>exact .inl ⟨d,es,i1,i2,ht.1,ht.2.1,ht.2.2.1,hq.here (.bl _) rs ht.2.2.2⟩
  |ref a=>
   cases d<;>first|exact AT ht|skip
   obtain⟨kvs,e,ht⟩:=ht;exact hd (.inr _) a kvs i1.str_inv i2.ref_inv e ht
  |ktup ks=>
   cases i2 with
   |ktup sq hp=>
    cases d<;>first|exact AT ht|exact .inr (.inl ⟨.inl _,ks,_,i1.int_inv,rfl,rfl,sq.k,hp,hq.here (.bl _) rs ht⟩)|exact .inr (.inl ⟨.inr _,ks,_,i1.str_inv,rfl,ht.1,sq.k,hp,hq.here (.bl _) rs ht.2⟩)
  |_=>exact AT (by cases d<;>exact ht)
 |NotIn=>
  cases e with
  |tup es=>exact .inl ⟨d,es,i1,i2,ht.1,ht.2.1,ht.2.2.1,hq.here (.bl _) rs ht.2.2.2⟩
  |ref a=>
   cases d<;>first|exact AT ht|skip
   obtain⟨kvs,e,ht⟩:=ht;obtain⟨vs,h1,h2⟩:=rs.dct e;refine .inr (.inr ⟨a,.inl _,vs,i1.int_inv,i2.ref_inv,h1,?_⟩)
   rcases h2.look (.inl _)with⟨l1,l2⟩|⟨d,v,l1,l2,_⟩<;>(rw[l1]at ht;rw[l2];exact hq.here (.bl _) rs ht)
  |ktup ks=>
   cases d<;>first|exact AT ht|skip
   cases i2 with
   |ktup sq hp=>exact .inr (.inl ⟨.inr _,ks,_,i1.str_inv,rfl,ht.1,sq.k,hp,hq.here (.bl _) rs ht.2⟩)
  |_=>exact AT (by cases d<;>exact ht)
 |Is=>cases d<;>first|exact AT ht|(cases e<;>first|exact AT ht|exact⟨_,_,i1.bl_inv,i2.bl_inv,hq.here (.bl _) rs ht⟩)
 |IsNot=>cases d<;>first|exact AT ht|(cases e<;>first|exact AT ht|exact⟨_,_,i1.bl_inv,i2.bl_inv,hq.here (.bl _) rs ht⟩)
def ar2(o)b(h:∀es k p,b≠.Set es k p):CM o b=AH:=by
 cases b<;>first|rfl|exact absurd rfl (h _ _ _)
def cb5(hu:X.A.units+2200<Cm)(ha:PE X a (up X.K ta))(hb:PE X b (up X.K tb))(hm:∀es k p,b≠.Set es k p):PE X (.Compare a [o] [b] pos) (up X.K λenv st Q=>ta env st λx st1=>tb env st1 λy st2=>i6 o x y st2 Q):=
 PE.imp (b14 (ax1 hu o) ha hb (ar2 o b hm)) λσ H Q q=>up2 (f:=i6 o) q λv w d e H' st' Qd i1 i2 rs ht hq=>a44 i1 i2 rs ht hq
def cf5(hu:X.A.units+2200<Cm)(ha:PE X a (up X.K ta))(hb:PE X b (up X.K tb))(hm:∀es k p,b≠.Set es k p):
  PT X (.Compare a [o] [b] pos) (upB X.K λenv st Q=>ta env st λx st1=>tb env st1 λy st2=>i6 o x y st2 λd st'=>∃k,d=.bl k/\Q k st'):=
 PT.imp (bs9 (ax1 hu o) ha hb (ar2 o b hm)) λσ H Q q=>by
  obtain⟨env,st,Qd,hE,hS,ht,hq⟩:=q;refine up2 (f:=i6 o) (Q:=λx H'=>∃k,x=.bl k/\Q k H') ⟨env,st,_,hE,hS,ht,λv d H' st' ev is rs q1=>?_⟩ λv w d e H' st' Qd i1 i2 rs ht hq=>a44 i1 i2 rs ht hq;obtain⟨k,rfl,q1⟩:=q1;exact⟨k,is.bl_inv,hq k H' st' ev rs q1⟩
def b88{j pos'}(ha:PE X a (up X.K ta)):PE X (.Compare a [.Is] [.Constant .none j pos'] pos) (up X.K λenv st Q=>ta env st λx st1=>x=.non/\Q (.bl AB) st1\/x≠.non/\Q (.bl AH) st1):=
 PE.imp (a53 (az8 ha) rfl) λσ H Q q=>up1 q λv d H' st' Qd is rs ht hq=>by
  rcases ht with⟨rfl,ht⟩|⟨hn,ht⟩
  ·cases is;exact hq.here (.bl _) rs (by simp_all)
  ·have e:AE (v=V.non)=AH:=decide_eq_false λz=>hn (by subst z;cases is;rfl);rw[e];exact hq.here (.bl _) rs ht
def br5{j pos'}(ha:PE X a (up X.K ta)):PE X (.Compare a [.IsNot] [.Constant .none j pos'] pos) (up X.K λenv st Q=>ta env st λx st1=>x=.non/\Q (.bl AH) st1\/x≠.non/\Q (.bl AB) st1):=
 PE.imp (a53 (ax0 ha) rfl) λσ H Q q=>up1 q λv d H' st' Qd is rs ht hq=>by
  rcases ht with⟨rfl,ht⟩|⟨hn,ht⟩
  ·cases is;exact hq.here (.bl _) rs (by simp_all)
  ·have e:AE (v=V.non)=AH:=decide_eq_false λz=>hn (by subst z;cases is;rfl);rw[e];exact hq.here (.bl _) rs ht
def a77{t}{f}(h:PT X x (tB t))(i:∀σ H Q,up X.K f σ H Q->t σ H Q):PT X x (upB X.K λenv st Q=>f env st λd st'=>∃b,d=.bl b/\Q b st'):=PT.imp h λσ H Q q=>by
 obtain⟨env,st,Qd,hE,hS,ht,hq⟩:=q;refine i σ H _ ⟨env,st,_,hE,hS,ht,λv d H' st' ev is rs q=>?_⟩;obtain⟨b,rfl,q⟩:=q;cases is;exact⟨b,rfl,hq b H' st' ev rs q⟩
def b93{j pos'}(ha:PE X a (up X.K ta)):PT X (.Compare a [.Is] [.Constant .none j pos'] pos) (upB X.K λenv st Q=>ta env st λx st1=>(x=.non/\∃b,D.bl AB=.bl b/\Q b st1)\/x≠.non/\∃b,D.bl AH=.bl b/\Q b st1):=
 a77 (a03 (az8 ha) rfl) λσ H Q q=>up1 (f:=λx st1 Q=>x=.non/\Q (.bl AB) st1\/x≠.non/\Q (.bl AH) st1) q λv d H' st' Qd is rs ht hq=>by
  rcases ht with⟨rfl,ht⟩|⟨hn,ht⟩
  ·cases is;exact hq.here (.bl _) rs (by simp_all)
  ·have e:AE (v=V.non)=AH:=decide_eq_false λz=>hn (by subst z;cases is;rfl);rw[e];exact hq.here (.bl _) rs ht
def br3{j pos'}(ha:PE X a (up X.K ta)):PT X (.Compare a [.IsNot] [.Constant .none j pos'] pos) (upB X.K λenv st Q=>ta env st λx st1=>(x=.non/\∃b,D.bl AH=.bl b/\Q b st1)\/x≠.non/\∃b,D.bl AB=.bl b/\Q b st1):=
 a77 (a03 (ax0 ha) rfl) λσ H Q q=>up1 (f:=λx st1 Q=>x=.non/\Q (.bl AH) st1\/x≠.non/\Q (.bl AB) st1) q λv d H' st' Qd is rs ht hq=>by
  rcases ht with⟨rfl,ht⟩|⟨hn,ht⟩
  ·cases is;exact hq.here (.bl _) rs (by simp_all)
  ·have e:AE (v=V.non)=AH:=decide_eq_false λz=>hn (by subst z;cases is;rfl);rw[e];exact hq.here (.bl _) rs ht
@[reducible]noncomputable def tst(t:DT):DB:=λenv st Q=>t env st λd st'=>∃b,d=.bl b/\Q b st'
variable {d7:List AR}
def a49(ha:PE X a (up X.K ta))(hb:PE X (.BoolOp .And (b::d7) pos) (up X.K tb)):PE X (.BoolOp .And (a::b::d7) pos) (up X.K λenv st Q=>ta env st λx st1=>∃c,x=.bl c/\if c=AB then tb env st1 Q else Q (.bl AH) st1):=
 PE.imp (b27 ha hb) λσ H Q q=>by
  obtain⟨env,st,Qd,hE,hS,ht,hq⟩:=q;refine⟨env,st,_,hE,hS,ht,λv d H1 st1 ev is rs q1=>?_⟩;obtain⟨k,rfl,q1⟩:=q1;refine⟨k,is.bl_inv,?_⟩;cases k with
  |true=>exact⟨env,st1,Qd,hE.mono (ev.tk hS),rs,q1,hq.after ev⟩
  |false=>exact(hq.after ev).here (.bl _) rs q1
def a80(ha:PE X a (up X.K ta))(hb:PE X (.BoolOp .Or (b::d7) pos) (up X.K tb)):PE X (.BoolOp .Or (a::b::d7) pos) (up X.K λenv st Q=>ta env st λx st1=>∃c,x=.bl c/\if c=AB then Q (.bl AB) st1 else tb env st1 Q):=
 PE.imp (cl7 ha hb) λσ H Q q=>by
  obtain⟨env,st,Qd,hE,hS,ht,hq⟩:=q;refine⟨env,st,_,hE,hS,ht,λv d H1 st1 ev is rs q1=>?_⟩;obtain⟨k,rfl,q1⟩:=q1;refine⟨k,is.bl_inv,?_⟩;cases k with
  |false=>exact⟨env,st1,Qd,hE.mono (ev.tk hS),rs,q1,hq.after ev⟩
  |true=>exact(hq.after ev).here (.bl _) rs q1
def cd0(ha:PE X a (up X.K ta)):PE X (.UnaryOp .Not a pos) (up X.K λenv st Q=>ta env st λx st1=>∃c,x=.bl c/\Q (.bl !c) st1):=
 PE.imp (b29 ha) λσ H Q q=>up1 q λv d H' st' Qd is rs ht hq=>by
  obtain⟨c,rfl,ht⟩:=ht;exact⟨c,is.bl_inv,hq.here (.bl _) rs ht⟩
def a43(ha:PT X a (upB X.K (tst ta)))(hb:PW X (.BoolOp .And (b::d7) pos) (upB X.K (tst tb))):PW X (.BoolOp .And (a::b::d7) pos) (upB X.K (tst λenv st Q=>ta env st λx st1=>∃c,x=.bl c/\if c=AB then tb env st1 Q else Q (.bl AH) st1)):=
 PW.imp (cc7 ha hb) λσ H Q q=>by
  obtain⟨env,st,Qd,hE,hS,ht,hq⟩:=q;refine⟨env,st,λc st1=>if c=AB then tb env st1 λd st'=>∃b,d=.bl b/\Qd b st' else ∃b,D.bl AH=.bl b/\Qd b st1,hE,hS,ht,λk H1 st1 ev rs q1=>?_⟩;cases k with
  |true=>
   exact⟨env,st1,Qd,hE.mono (ev.tk hS),rs,q1,λc H2 st2 ev2=>hq c H2 st2 (ev.trans ev2)⟩
  |false=>
   obtain⟨b,e,q1⟩:=q1;cases e;exact hq AH H1 st1 ev rs q1
def a72(ha:PT X a (upB X.K (tst ta)))(hb:PW X (.BoolOp .Or (b::d7) pos) (upB X.K (tst tb))):PW X (.BoolOp .Or (a::b::d7) pos) (upB X.K (tst λenv st Q=>ta env st λx st1=>∃c,x=.bl c/\if c=AB then Q (.bl AB) st1 else tb env st1 Q)):=
 PW.imp (cj1 ha hb) λσ H Q q=>by
  obtain⟨env,st,Qd,hE,hS,ht,hq⟩:=q;refine⟨env,st,λc st1=>if c=AB then ∃b,D.bl AB=.bl b/\Qd b st1 else tb env st1 λd st'=>∃b,d=.bl b/\Qd b st',hE,hS,ht,λk H1 st1 ev rs q1=>?_⟩;cases k with
  |false=>
   exact⟨env,st1,Qd,hE.mono (ev.tk hS),rs,q1,λc H2 st2 ev2=>hq c H2 st2 (ev.trans ev2)⟩
  |true=>
   obtain⟨b,e,q1⟩:=q1;cases e;exact hq AB H1 st1 ev rs q1
def b44(ha:PT X a (upB X.K (tst ta))):PT X (.UnaryOp .Not a pos) (upB X.K (tst λenv st Q=>ta env st λx st1=>∃c,x=.bl c/\Q (.bl !c) st1)):=
 PT.imp (b64 ha) λσ H Q q=>by
  obtain⟨env,st,Qd,hE,hS,ht,hq⟩:=q;refine⟨env,st,λc st1=>∃b,D.bl (!c)=.bl b/\Qd b st1,hE,hS,ht,λk H1 st1 ev rs q1=>?_⟩;obtain⟨b,e,q1⟩:=q1;cases e;exact hq _ H1 st1 ev rs q1
def b37{t1}(hc:PT X c (upB X.K (tst t1)))(ha:PE X a (up X.K ta))(hb:PE X b (up X.K tb)):PE X (.IfExp c a b pos) (up X.K λenv st Q=>t1 env st λx st1=>∃k,x=.bl k/\if k=AB then ta env st1 Q else tb env st1 Q):=
 PE.imp (bk9 hc ha hb) λσ H Q q=>by
  obtain⟨env,st,Qd,hE,hS,ht,hq⟩:=q;refine⟨env,st,λk st1=>if k=AB then ta env st1 Qd else tb env st1 Qd,hE,hS,ht,λk H1 st1 ev rs q1=>?_⟩;cases k with
  |true=>exact⟨env,st1,Qd,hE.mono (ev.tk hS),rs,q1,hq.after ev⟩
  |false=>exact⟨env,st1,Qd,hE.mono (ev.tk hS),rs,q1,hq.after ev⟩
end
end Ek
namespace Ek
open PySem PySem.Spec PyProof.Rows L2
variable [Tbs]
variable{H:Hp}{ds:List D}{vs:List V}{t:DA}{f m:Str}{fa Ca:AI}{fd:Bi}{ps:List Str}{sp:Spec}{n:Nat}{apos:Pos}
section
variable {X:Cx} {a b c:AR} {ta tb tc:DT} {pos p:Pos}
def a50{K}{i}{d}(r:IsDs K H ds vs)(h:atI ds i=AA d):∃v,atI vs i=AA v/\IsD K H d v:=by
 unfold atI at h ⊢;rw[<-r.len];cases e:ixN ds.length i with
 |none=>simp_all
 |some j=>
  rw[e]at h;exact r.get h
def am6(h:∀l u s p,b≠.Slice l u s p):ay1 b:=λo i=>by
 cases b<;>first|rfl|exact absurd rfl (h _ _ _ _)
abbrev ct3:R2:=λx y H Q=>∃p k kvs v,x=.ref p/\y=kV k/\H p=AA (.dK kvs)/\p4 kvs k=AA v/\Q v H
def cg3(hu:X.A.units+2200<Cm):IxR X ct3:=by
 intro value slice pins s σ H x y v u Q I rx ry h hs;obtain⟨p,k,kvs,z,rfl,rfl,hH,hv,q⟩:=h;cases rx;have g:A1 H p (kV k) (AA z):=by rw[<-hv];exact A1.k hH
 have hT:=bc9 I g;unfold GQ;refine AD ?_;rw[Ir hT.not_modules];refine AD (DN hT PySem.F.slot_dict_getitem.lookup ?_);have fin:AV (model X.prog X.w) X.A (subscripted slice AH (.ref p) u) (λr s₃=>AV (model X.prog X.w) X.A (Kq value (.ref p) r>>=λ_=>pure r) (EP X pins σ Q) X.xe s₃) X.xe s:=by
  rw[hs];refine KZ (bi2 ⋯ I g ry λw' s3 I3 rw'=>AD (JC (AJ ⟨z,H,I3,rw',q⟩)))
 first
  |exact AJ (AD fin)
  |exact AD (AJ (AD fin))
  |exact AD fin
def cs2(hu:X.A.units+2200<Cm)(ha:PE X a (up X.K ta))(hb:PE X b (up X.K tb))(hs:∀l u s p,b≠.Slice l u s p):PE X (.Subscript a b pos) (up X.K λenv st Q=>ta env st λx st1=>tb env st1 λy st2=>ixR x y st2 Q):=
 PE.imp (ch4 (br2.or (b52.or ((cg3 hu).or b51))) ha hb (am6 hs)) λσ H Q q=>up2 (f:=ixR) q λv w d e H' st' Qd i1 i2 rs ht hq=>by
  cases d<;>first|exact AT ht|(cases e<;>first|exact AT ht|skip)
  ·obtain⟨c,hl,e1,ht⟩:=ht;exact .inr (.inr (.inr ⟨_,_,c,i1.str_inv,i2.int_inv,hl,e1,hq.here (.str _) rs ht⟩))
  ·obtain⟨d,e1,ht⟩:=ht;obtain⟨p,vs,rfl,hq',r⟩:=i1.tup_inv;obtain⟨v',e2,is⟩:=a50 r e1;exact .inr (.inl ⟨p,vs,_,v',rfl,i2.int_inv,hq',e2,hq.here is rs ht⟩)
  ·rcases ht with⟨ds,d,hr,e1,ht⟩|⟨kvs,d,hr,e1,ht⟩
   ·obtain⟨vs,hq',r⟩:=rs.rd hr;obtain⟨v',e2,is⟩:=a50 r e1;exact .inl ⟨_,vs,_,v',i1.ref_inv,i2.int_inv,hq',e2,hq.here is rs ht⟩
   ·obtain⟨vs,hH,r⟩:=rs.dct hr
    rcases r.look (.inl _)with⟨l1,l2⟩|⟨d',v',l1,l2,is⟩
    ·rw[l1]at e1;cases e1
    ·rw[l1]at e1;cases e1;exact .inr (.inr (.inl ⟨_,.inl _,vs,v',i1.ref_inv,i2.int_inv,hH,l2,hq.here is rs ht⟩))
  ·obtain⟨kvs,d,hr,e1,ht⟩:=ht;obtain⟨vs,hH,r⟩:=rs.dct hr
   rcases r.look (.inr _)with⟨l1,l2⟩|⟨d',v',l1,l2,is⟩
   ·rw[l1]at e1;cases e1
   ·rw[l1]at e1;cases e1;exact .inr (.inr (.inl ⟨_,.inr _,vs,v',i1.ref_inv,i2.str_inv,hH,l2,hq.here is rs ht⟩))
@[reducible]noncomputable def DO:=c9->Sto->(Option Int->Sto->Prop)->Prop
abbrev upO(K:AN)(t:DO):TO:=λσ H Q=>∃env st Qd,RelE K H env σ/\RelS K st H/\t env st Qd/\∀o H' st',Ev st H st' H'->RelS K st' H'->Qd o st'->Q o H'
def _root_.L2.PO.imp{X}{x}{t t'}(h:PO X x t)(i:∀σ H Q,t' σ H Q->t σ H Q):PO X x t':=λpins s σ H Q I q=>h pins s σ H Q I (i σ H Q q)
def bv3:PO X AC (upO X.K λ_ st k=>k AC st):=PO.imp bx4 λσ H Q q=>by
 obtain⟨env,st,Qd,hE,hS,ht,hq⟩:=q;exact hq AC H st Ev.refl hS ht
def b01(ha:PE X a (up X.K ta)):PO X (AA a) (upO X.K λenv st k=>ta env st λd st'=>∃i,d=.int i/\k (AA i) st'):=PO.imp (bu7 ha) λσ H Q q=>by
 obtain⟨env,st,Qd,hE,hS,ht,hq⟩:=q;refine⟨env,st,_,hE,hS,ht,λv d H' st' ev is rs q1=>?_⟩;obtain⟨i,rfl,q1⟩:=q1;exact⟨i,is.int_inv,hq _ H' st' ev rs q1⟩
def a42{K}(r:IsDs K H ds vs)lo hi:IsDs K H (p5 ds lo hi) (E3 vs lo hi):=by
 unfold p5 E3;rw[r.len];exact(r.drop _).take _
def cn0{lo hi}{tl th}{p2}(ha:PE X a (up X.K ta))(hl:PO X lo (upO X.K tl))(hh:PO X hi (upO X.K th)):
  PE X (.Subscript a (.Slice lo hi AC p2) pos) (up X.K λenv st Q=>ta env st λx st1=>tl env st1 λl st2=>th env st2 λh st3=>slR x l h st3 Q):=
 PE.imp (bm9 (b25.or bs7) ha hl hh) λσ H Q q=>by
  obtain⟨env,st,Qd,hE,hS,ht,hq⟩:=q;refine⟨env,st,_,hE,hS,ht,λv d H1 st1 ev1 is1 rs1 q1=>⟨env,st1,_,hE.mono (ev1.tk hS),rs1,q1,λl H2 st2 ev2 rs2 q2=>⟨env,st2,_,(hE.mono (ev1.tk hS)).mono (ev2.tk rs1),rs2,q2,λh H3 st3 ev3 rs3 q3=>?_⟩⟩⟩;have is3:=(is1.mono (ev2.tk rs1)).mono (ev3.tk rs2);have hq3:=((hq.after ev1).after ev2).after ev3;cases d<;>first|exact AT q3|skip
  ·obtain⟨p,vs,rfl,hs,r⟩:=is3.tup_inv;exact .inl ⟨p,vs,rfl,hs,(r.len▸q3.1),hq3.newT rs3 (a42 r l h) q3.2⟩
  ·obtain⟨ds,hr,q3⟩:=q3;obtain⟨vs,hs,r⟩:=rs3.rd hr;exact .inr ⟨_,vs,is3.ref_inv,hs,hq3.newL rs3 (a42 r l h) q3⟩
def F0(ha:PE X a (up X.K ta))(h:∀e p,a≠.Starred e p):PA X [a] (upA X.K 1 λenv st Q=>ta env st λd st1=>Q [d] st1):=L5 ha ag1 h
def a86{id}{r}{g:D->Sto->DK->Prop}(hc:z7 X (.builtin id) r)(hg:Gl X f)(hm:X.mg f=AC)(hv:BK f=AA (.builtin id))(ha:PE X a (up X.K ta))(hs:∀e p,a≠.Starred e p)
  (imp:∀v d H' st' Qd Q,IsD X.K H' d v->RelS X.K st' H'->g d st' Qd->o3 X.K st' H' Qd Q->r [v] H' Q) (hn:f≠"__name__") (hdb:(f=="__debug__")=AH) :
  PE X (.Call (.Name f p) [a] [] pos) (up X.K λenv st Q=>ta env st λx st1=>g x st1 Q):=
 PE.imp (ae2 hc hg hm hv (F0 ha hs) hn hdb (k5 hs) rfl) λσ H Q q=>by
  obtain⟨env,st,Qd,hE,hS,ht,hq⟩:=q;refine⟨env,st,λds st1=>match ds with|[d]=>g d st1 Qd|_=>False,hE,hS,ht,λvs ds H' st' ev is hl rs q1=>?_⟩
  match ds,hl with
  |[d],_=>
   obtain⟨v,ws,rfl,i1,i2⟩:=is.inv_cons;rw[i2.inv_nil];exact imp v d H' st' Qd Q i1 rs q1 (hq.after ev)
def ai6{T}{r}{g:D->Sto->DK->Prop}(hc:z7 X (.type T) r)(hg:Gl X f)(hm:X.mg f=AC)(hv:BK f=AA (.type T))(ha:PE X a (up X.K ta))(hs:∀e p,a≠.Starred e p)
  (imp:∀v d H' st' Qd Q,IsD X.K H' d v->RelS X.K st' H'->g d st' Qd->o3 X.K st' H' Qd Q->r [v] H' Q) (hn:f≠"__name__") (hdb:(f=="__debug__")=AH) :
  PE X (.Call (.Name f p) [a] [] pos) (up X.K λenv st Q=>ta env st λx st1=>g x st1 Q):=
 PE.imp (bg9 hc hg hm hv (F0 ha hs) hn hdb (k5 hs) rfl) λσ H Q q=>by
  obtain⟨env,st,Qd,hE,hS,ht,hq⟩:=q;refine⟨env,st,λds st1=>match ds with|[d]=>g d st1 Qd|_=>False,hE,hS,ht,λvs ds H' st' ev is hl rs q1=>?_⟩
  match ds,hl with
  |[d],_=>
   obtain⟨v,ws,rfl,i1,i2⟩:=is.inv_cons;rw[i2.inv_nil];exact imp v d H' st' Qd Q i1 rs q1 (hq.after ev)
def bd7:BK "isinstance"=AA (.builtin "isinstance"):=rfl
def bl0:BK "int"=AA (.type "int"):=by decide+kernel
def bf2:BK "list"=AA (.type "list"):=by decide+kernel
def bd4:BK "tuple"=AA (.type "tuple"):=by decide+kernel
def a56(hg:Gl X "len")(hm:X.mg "len"=AC)(ha:PE X a (up X.K ta))(hs:∀e p,a≠.Starred e p):PE X (.Call (.Name "len" p) [a] [] pos) (up X.K λenv st Q=>ta env st λx st1=>G9 x st1 Q):=
 a86 bc4 hg hm PySem.boot_len ha hs (λv d H' st' Qd Q is rs ht hq=>by
  cases d<;>first|exact AT ht|skip
  ·obtain⟨p,vs,rfl,hs,r⟩:=is.tup_inv;exact⟨p,vs,rfl,.inr hs,r.len▸hq.here (.int _) rs ht⟩
  ·obtain⟨ds,hr,ht⟩:=ht;obtain⟨vs,hs,r⟩:=rs.rd hr;exact⟨_,vs,by rw[is.ref_inv],.inl hs,r.len▸hq.here (.int _) rs ht⟩) ∅ ∅
def bp3(hg:Gl X "int")(hm:X.mg "int"=AC)(ha:PE X a (up X.K ta))(hs:∀e p,a≠.Starred e p):PE X (.Call (.Name "int" p) [a] [] pos) (up X.K λenv st Q=>ta env st λx st1=>R3 x st1 Q):=
 ai6 bi0 hg hm bl0 ha hs (λv d H' st' Qd Q is rs ht hq=>by
  cases d<;>first|exact AT ht|skip
  ·exact .inr ⟨_,by rw[is.bl_inv],hq.here (.int _) rs ht⟩
  ·exact .inl ⟨_,by rw[is.int_inv],hq.here (.int _) rs ht⟩) ∅ ∅
def b00(hg:Gl X "list")(hm:X.mg "list"=AC)(ha:PE X a (up X.K ta))(hs:∀e p,a≠.Starred e p):PE X (.Call (.Name "list" p) [a] [] pos) (up X.K λenv st Q=>ta env st λx st1=>X7 x st1 Q):=
 ai6 bc1 hg hm bf2 ha hs (λv d H' st' Qd Q is rs ht hq=>by
  cases d<;>first|exact AT ht|skip
  ·obtain⟨p,vs,rfl,hs,r⟩:=is.tup_inv;exact⟨p,vs,rfl,.inr hs,hq.newL rs r ht⟩
  ·obtain⟨ds,hr,ht⟩:=ht;obtain⟨vs,hs,r⟩:=rs.rd hr;exact⟨_,vs,by rw[is.ref_inv],.inl hs,hq.newL rs r ht⟩) ∅ ∅
def bk7(hg:Gl X "tuple")(hm:X.mg "tuple"=AC)(ha:PE X a (up X.K ta))(hs:∀e p,a≠.Starred e p):PE X (.Call (.Name "tuple" p) [a] [] pos) (up X.K λenv st Q=>ta env st λx st1=>M4 x st1 Q):=
 ai6 bb8 hg hm bd4 ha hs (λv d H' st' Qd Q is rs ht hq=>by
  cases d<;>first|exact AT ht|skip
  ·obtain⟨p,vs,rfl,hs,r⟩:=is.tup_inv;exact⟨p,vs,rfl,.inr ⟨hs,hq.here is rs ht⟩⟩
  ·obtain⟨ds,hr,ht⟩:=ht;obtain⟨vs,hs,r⟩:=rs.rd hr;exact⟨_,vs,by rw[is.ref_inv],.inl ⟨hs,hq.newT rs r ht⟩⟩) ∅ ∅
def a01(ha:PE X a (up X.K ta))(hb:PE X b (up X.K tb))(h:∀e p,a≠.Starred e p)(h':∀e p,b≠.Starred e p):PA X [a,b] (upA X.K 2 λenv st Q=>ta env st λd st1=>tb env st1 λe st2=>Q [d,e] st2):=L5 ha (F0 hb h') h
abbrev D2:List String:=["tuple","int","bool","str","list"]
def ah2 K:∀t∈D2,∀ty∈["NoneType","bool","int","str","tuple","list"],Dq K (.type ty) (.type t)=AA (ty==t||ty=="bool"&&t=="int"):=by
 intro t ht ty hty;simp only[D2,Ae,Ba,or_false]at ht hty
 rcases ht with rfl|rfl|rfl|rfl|rfl<;>rcases hty with rfl|rfl|rfl|rfl|rfl|rfl<;>first|rfl|(rfl)|(unfold Dq)
def cc6{p2:Pos}{t:String}(hin:t∈D2)(hg:Gl X "isinstance")(hm:X.mg "isinstance"=AC)(hg2:Gl X f)(hm2:X.mg f=AC)(hboot:BK f=AA (.type t))(hn:f≠"__name__")(hdb:(f==("__debug__":Str))=AH)(ha:PE X a (up X.K ta))(hs:∀e p,a≠.Starred e p):
  PE X (.Call (.Name "isinstance" p) [a,.Name f p2] [] pos) (up X.K λenv st Q=>ta env st λx st1=>X9 t x st1 Q):=by
 intro pins s σ H Q I q;obtain⟨env,st,Qd,hE,hS,ht,hq⟩:=q;have arg:PA X [a,.Name f p2] (ai2 (up X.K ta) (ai2 (tC (.ty t)) ak9)):=af4 ha (af4 (bw9 (v:=.ty t) hg2 hm2 hboot rfl hn hdb) az9 rfl) (k5 hs);refine ae2 (r:=λvs H Q=>(∃x ty b,vs=[x,.ty t]/\TyOf X.K H x ty/\Dq X.K ty (.type t)=AA b/\Q (.bl b) H)\/∃q' xs b,vs=[.ref q',.ty t]/\SqT X.K H q' xs/\Dq X.K (.type "tuple") (.type t)=AA b/\Q (.bl b) H) ?_ hg hm bd7 arg ∅ ∅ (k5 hs) rfl pins s σ H Q I ?_
 ·intro pins s σ H vs us Q I r h
  rcases h with⟨x,ty,b,rfl,h1,h2,q⟩|⟨q',xs,b,rfl,h1,h2,q⟩
  ·obtain⟨u,v,rfl,ru,rv⟩:=r.two;cases rv;exact bj8 I ru h1 h2 λtk=>⟨.bl b,H,I.tok _,rfl,q⟩
  ·obtain⟨u,v,rfl,ru,rv⟩:=r.two;cases rv;cases ru;obtain⟨its,_,⟨o,e1,e2,_⟩,_⟩:=I.tupleD h1;exact Cd Km I.kIn ⟨o,e1,e2⟩ h2 (λz=>nomatch z) λtk=>⟨.bl b,H,I.tok _,rfl,q⟩
 ·refine⟨env,st,_,hE,hS,ht,λv d H' st' ev is rs q1=>?_⟩;have fin:∀ty:String,ty∈["NoneType","bool","int","str","tuple","list"]->TyOf X.K H' v (.type ty)->Qd (.bl (ty==t||(ty=="bool"&&t=="int"))) st'->(∃x ty b,[v,V.ty t]=[x,.ty t]/\TyOf X.K H' x ty/\Dq X.K ty (.type t)=AA b/\Q (.bl b) H')\/∃q' xs b,[v,V.ty t]=[.ref q',.ty t]/\SqT X.K H' q' xs/\Dq X.K (.type "tuple") (.type t)=AA b/\Q (.bl b) H':=λty hty h1 h2=>.inl ⟨v,.type ty,_,rfl,h1,ah2 X.K t hin ty hty,(hq.after ev).here (.bl _) rs h2⟩
  rcases q1 with⟨ty,e,q1⟩|⟨b,ds,rfl,hr,q1⟩
  ·cases d<;>first|(simp[tyD]at e;done)|skip
   all_goals (simp only[tyD,Ct]at e;subst e)
   ·cases is;exact fin "NoneType" ∎ .non q1
   ·cases is;exact fin "bool" ∎ (.bl _) q1
   ·cases is;exact fin "int" ∎ (.int _) q1
   ·cases is;exact fin "str" ∎ (.str _) q1
   ·obtain⟨q',vs,rfl,hq',r⟩:=is.tup_inv;exact .inr ⟨q',vs,_,rfl,hq',ah2 X.K t hin "tuple" ∎,(hq.after ev).here (.bl _) rs q1⟩
   ·cases is with
    |ktup sq _=>exact .inr ⟨_,_,_,rfl,sq.k,ah2 X.K t hin "tuple" ∎,(hq.after ev).here (.bl _) rs q1⟩
  ·obtain⟨vs,hs',r⟩:=rs.rdR hr;rw[is.ref_inv];have q2:Qd (.bl ("list"==t||("list"=="bool"&&t=="int"))) st':=by
    have e:("list"==t||("list"=="bool"&&t=="int"))=(t=="list"):=by simp only[D2,Ae,Ba,or_false]at hin;rcases hin with rfl|rfl|rfl|rfl|rfl<;>decide
    rw[e];exact q1
   rw[is.ref_inv]at fin
   rcases hs' with h|⟨o,h⟩
   ·exact fin "list" ∎ (.lst h) q2
   ·exact fin "list" ∎ (.frz h) q2
abbrev t4(K:AN)(sp:Spec):Sp:=λvs H Q _=>∃ds st Qd,IsDs K H ds vs/\RelS K st H/\sp ds st Qd/\o3 K st H Qd Q
def b18{f:Str}{k:Nat}{es:List AR}(F:FnOk X.prog X.w X.K X.mg X.base CX0 k fa fd ps (t4 X.K sp))(hr:Room k X.A)(hg:Gl X f)(hm:X.mg f=AA (.ref fa))(hk:Bo X.K (.ref fa)=AB)
  (hb:l0 X.K fd ps []) (ha:PA X (a::es) (upA X.K n t)) (hdb:(f==("__debug__":Str))=AH) (hs:∀e p,a≠.Starred e p) (hpl:(CU pos (Am es X.env)).any (·.1)=AH) :
  PE X (.Call (.Name f p) (a::es) [] pos) (up X.K λenv st Q=>t env st λds st1=>sp ds st1 Q):=
 PE.imp (aw8 F hr hg hm hk hb .nil D6 ha hdb (k5 hs) hpl) λσ H Q q=>Y9 (f:=sp) q λvs ds H' st' Qd is hl rs ht hq=>⟨ds,st',Qd,by rw[Be];exact is,rs,ht,hq⟩
def bl9{f:Str}{k:Nat}{es:List AR}(F:FnOk X.prog X.w X.K X.mg X.base CX0 k fa fd ps (t4 X.K sp))(hr:Room k X.A)(hg:Gl X f)(hm:X.mg f=AA (.ref fa))(hk:Bo X.K (.ref fa)=AB)
  {i:Int} {tk:Tok} (hb:l0 X.K fd ps [.int i tk]) (ha:PA X (a::es) (upA X.K n t)) (hdb:(f==("__debug__":Str))=AH) (hs:∀e p,a≠.Starred e p) (hpl:(CU pos (Am es X.env)).any (·.1)=AH) :
  PE X (.Call (.Name f p) (a::es) [] pos) (up X.K λenv st Q=>t env st λds st1=>sp (ds++[.int i]) st1 Q):=
 PE.imp (aw8 F hr hg hm hk hb (dvs:=[.int i]) (.cons ⟨_,rfl⟩ .nil) D6 ha hdb (k5 hs) hpl) λσ H Q q=>Y9 (f:=λds=>sp (ds++[.int i])) q λvs ds H' st' Qd is hl rs ht hq=>⟨ds++[.int i],st',Qd,is.append (.cons (.int i) .nil),rs,ht,hq⟩
def cm5(hg:Gl X f)(hm:X.mg f=AA (.ref fa))(hns:BH X.K AO f=AA (AA (.ref fa)))(hdb:(f==("__debug__":Str))=AH):PE X (.Name f p) (up X.K λ_ st Q=>Q (.fn f) st):=
 PE.imp (ay7 (v:=.ref fa) hg hm rfl hdb) λσ H Q q=>by
  obtain⟨env,st,Qd,hE,hS,ht,hq⟩:=q;exact hq.here (.fn hns) hS ht
abbrev R6(K:AN)(f:AI)(fd:Bi)(np:Nat)(N:List Str)(cs:List D)(sp:Spec):Sp:=λvs H Q _=>∃us ds st Qd,CloR H f fd np N us/\IsDs K H cs us/\IsDs K H ds vs/\RelS K st H/\sp ds st Qd/\o3 K st H Qd Q
def CloR.fnAt{f}{np}{N}{us}(h:CloR H f fd np N us)(I:Inv X pins σ H s):W.FnAt f s.heap:=by
 obtain⟨o,u,e1,_,e3⟩:=h.ex;obtain⟨h1,_⟩:=I.hok f _ e1;obtain⟨oc,od,da,sl⟩:=o;have e3':=e3;subst e3';exact⟨oc,od,fd,sl,h1⟩
def bl8{i:Nat}{x:Str}{es:List AR}{Z:Sg}(hN:X.N[i]?=AA x)(hv:Vis X.env.scope x)(hd:(x==("__debug__":Str))=AH)(hcd:(x==("__classdict__":Str))=AH)
  (hF:∀f fa,Z.F f=AB->BH X.K AO f=AA (AA (.ref fa))->∃k fd ps,FnOk X.prog X.w X.K X.mg X.base CX0 k fa fd ps (t4 X.K (Z.Phi f))/\Room k X.A/\Bo X.K (.ref fa)=AB/\l0 X.K fd ps [])
  (hC:∀np N b cs fa fd ps,CloF fd np N ps b->∃k,FnOk X.prog X.w X.K X.mg X.base CX0 k fa fd ps (R6 X.K fa fd np N cs (Z.PhiC np N b cs))/\Room k X.A)
  (ha:PA X (a::es) (upA X.K n t)) (hs:∀e p,a≠.Starred e p) (hpl:(CU pos (Am es X.env)).any (·.1)=AH) :
  PE X (.Call (.Name x p) (a::es) [] pos) (up X.K λenv st Q=>∃x,env[i]?=AA (AA x)/\N2 Z (t env) st Q x):=by
 intro pins s σ H Q I q;obtain⟨env,st,Qd,hE,hS,⟨d,he,hc⟩,hq⟩:=q;obtain⟨v,hv1,isv⟩:=hE.at' i _ he;cases d with
 |fn f=>
  obtain⟨hf,ht⟩:Z.F f=AB/\t env st λds st1=>Z.Phi f ds st1 Qd:=hc;obtain⟨fa,rfl,hns⟩:∃fa,v=.ref fa/\BH X.K AO f=AA (AA (.ref fa)):=by cases isv with|fn h=>exact⟨_,rfl,h⟩
  obtain⟨k,fd,ps,Fo,hr,hk,hb⟩:=hF f fa hf hns;refine CD (thn (ag3 hN hv hd hcd pins s σ H (λv H1=>v=.ref fa/\H1=H) I ⟨_,hv1,rfl,rfl⟩) λu s1 z33=>?_);obtain⟨v,H1,I1,r1,e1,e2⟩:=z33;subst e1 e2;cases r1;refine GT (h₀:=X.base) I1.ok.mod.kin hk (thn (ha pos pins s1 σ H1 (λvs H2=>∃ds st1,Ev st H1 st1 H2/\IsDs X.K H2 ds vs/\RelS X.K st1 H2/\Z.Phi f ds st1 Qd) I1 ⟨env,st,_,hE,hS,ht,λvs ds H' st' ev is hl rs q=>⟨ds,st',ev,is,rs,q⟩⟩) λus s2⟨vs,H2,I2,r,ds,st1,ev,is,rs,q⟩=>⟨I2.kIn,?_⟩) (k5 hs) hpl;exact Q7 Fo hr hb .nil D6 I2 r ⟨ds,st1,Qd,by rw[Be];exact is,rs,q,hq.after ev⟩
 |clo np N b cs=>
  have ht:t env st λds st1=>Z.PhiC np N b cs ds st1 Qd:=hc;obtain⟨fa,us0,rfl,ca,ics⟩:∃fa us,v=.ref fa/\R7 H fa np N b us/\IsDs X.K H cs us:=by cases isv with|clo h1 h2 h3=>exact⟨_,_,rfl,h1,h2,h3⟩
  obtain⟨fd,ps,cf,cr⟩:=ca;obtain⟨k,Fo,hr⟩:=hC np N b cs fa fd ps cf;refine CD (thn (ag3 hN hv hd hcd pins s σ H (λv H1=>v=.ref fa/\H1=H) I ⟨_,hv1,rfl,rfl⟩) λu s1 z34=>?_);obtain⟨v,H1,I1,r1,e1,e2⟩:=z34;subst e1 e2;cases r1;refine W.callWith_F (cr.fnAt I1) (thn (ha pos pins s1 σ H1 (λvs H2=>∃ds st1,Ev st H1 st1 H2/\IsDs X.K H2 ds vs/\RelS X.K st1 H2/\Z.PhiC np N b cs ds st1 Qd) I1 ⟨env,st,_,hE,hS,ht,λvs ds H' st' ev is hl rs q=>⟨ds,st',ev,is,rs,q⟩⟩) λus s2⟨vs,H2,I2,r,ds,st1,ev,is,rs,q⟩=>⟨(cr.mono (K:=X.K) (ev.tk hS)).fnAt I2,?_⟩) (k5 hs) hpl;exact Q7 Fo hr (.all cf.bind) .nil D6 I2 r ⟨us0,ds,st1,Qd,cr.mono (K:=X.K) (ev.tk hS),ics.mono (ev.tk hS),by rw[Be];exact is,rs,q,hq.after ev⟩
 |_=>exact(hc:False).elim
def v7{o}{nm}{env}{w}(h:∀i p p',o≠.Call (.Name i p) [] [] p'):DL o nm env w=w:=by
 unfold DL
 simp_all
def a55{f}{C:Str->List Str}(hC:∀c Ca,BH X.K AO c=AA (AA (.ref Ca))->f∈C c->Cls X.K Ca/\x9 X.K Ca f)(ha:PE X a (up X.K ta))(hbase:DL a f X.env (eval a X.env)=eval a X.env):
  PE X (.Attribute a f pos) (up X.K λenv st Q=>ta env st λx st1=>∃p c fs d,x=.ref p/\st1 p=AA (.ins c fs)/\f∈C c/\fs.lookup f=AA d/\Q d st1):=
 PE.imp (b53 ha hbase) λσ H Q q=>up1 q λv d H' st' Qd is rs ht hq=>by
  obtain⟨p,c,fs,e,rfl,hs,hf,hl,ht⟩:=ht;obtain⟨Ca,dx,vs,hH,hn,r⟩:=rs.ins hs;obtain⟨c1,c2⟩:=hC c Ca hn hf
  rcases r.look f with⟨l1,_⟩|⟨d',v',l1,l2,is'⟩
  ·simp_all
  ·rw[l1]at hl;cases hl;exact⟨p,Ca,dx,vs,v',is.ref_inv,hH,c1,c2,l2,hq.here is' rs ht⟩
def az0{o:AR}{pos}{args:List AR}{env}(hbo:∀i p p',o≠.Call (.Name i p) [] [] p')(hfew:Ft (args.length+0) (CU pos (Am args env)) (Hk pos (Fk [] env))=AB)(hline:(apos.endLine==pos.line)=AB):
  eval (.Call (.Attribute o m apos) args [] pos) env=(do
   let ov <-eval o env
   HS apos.atName
   let(f,first) <-holding [ov] (KI ov m (do return (<-importBound o env).getD AB))
   callWith pos f first (CU pos (Am args env)) (Hk pos (Fk [] env))):=by
 rw[arm_eval_Call,v7 hbo]
 unfold methodCall;simp only[Av]at hfew ⊢;rw[hfew];unfold methodCallPos calleeOf;simp only[hline];rfl
def b08{ob:AR}{es:List AR}{F:Str->Bool}{Ph:Str->Spec}
  (hM:∀c Ca,BH X.K AO c=AA (AA (.ref Ca))->F (c6 c m)=AB->∃k f fd ps,Cls X.K Ca/\Meth X.K Ca m f/\FnOk X.prog X.w X.K X.mg X.base CX0 k f fd ps (t4 X.K (Ph (c6 c m)))/\Room k X.A/\l0 X.K fd ps [])
  (hfew:Ft ((a::es).length+0) (CU pos (Am (a::es) X.env)) (Hk pos (Fk [] X.env))=AB) (hline:(apos.endLine==pos.line)=AB) (hbo:∀i p p',ob≠.Call (.Name i p) [] [] p') (ho:PE X ob (up X.K ta)) (ha:PA X (a::es) (upA X.K n t)) (hs:∀e p,a≠.Starred e p) (hpl:(CU pos (Am es X.env)).any (·.1)=AH) :
  PE X (.Call (.Attribute ob m apos) (a::es) [] pos) (up X.K λenv st Q=>ta env st λx st1=>∃p c fs,x=.ref p/\st1 p=AA (.ins c fs)/\fs.lookup m=AC/\F (c6 c m)=AB/\t env st1 λds st2=>Ph (c6 c m) (.ref p::ds) st2 Q):=by
 intro pins s σ H Q I q;obtain⟨env,st,Qd,hE,hS,ht,hq⟩:=q;refine Jy (thn (ho pins s σ H (λv H1=>∃p c fs st1,v=.ref p/\Ev st H st1 H1/\RelS X.K st1 H1/\st1 p=AA (.ins c fs)/\fs.lookup m=AC/\F (c6 c m)=AB/\t env st1 λds st2=>Ph (c6 c m) (.ref p::ds) st2 Qd) I ⟨env,st,_,hE,hS,ht,λv d H1 st1 ev is rs q1=>?_⟩) λu s1 z35=>?_) (az0 hbo hfew hline)
 ·obtain⟨p,c,fs,rfl,q1⟩:=q1;exact⟨p,c,fs,st1,is.ref_inv,ev,rs,q1⟩
 obtain⟨v,H1,I1,rx,p,c,fs,st1,ev,e1,rs,h1,h2,h3,h4⟩:=z35;subst ev;cases rx;obtain⟨Ca,dx,vs,hH,hn,r⟩:=rs.ins h1;obtain⟨k,f,fd,ps,cl,me,Fo,hr,hb⟩:=hM c Ca hn h3;have hl:vs.lookup m=AC:=by
  rcases r.look m with⟨_,l2⟩|⟨d',v',l1,_,_⟩
  ·exact l2
  ·rw[h2]at l1;cases l1
 refine am5 I1 hH cl me hl ?_;refine GT (first:=[.ref p]) (h₀:=X.base) I.ok.mod.kin me.kp (thn (ha pos pins s1 σ H1 (λvs H2=>∃ds st2,Ev st1 H1 st2 H2/\IsDs X.K H2 ds vs/\RelS X.K st2 H2/\Ph (c6 c m) (.ref p::ds) st2 Qd) I1 ⟨env,st1,_,hE.mono (e1.tk hS),rs,h4,λvs ds H' st' ev is hl rs q=>⟨ds,st',ev,is,rs,q⟩⟩) λus s2⟨vs,H2,I2,r2,ds,st2,ev2,is2,rs2,q2⟩=>⟨I2.kIn,?_⟩) (k5 hs) hpl;exact Q7 (us:=.ref p::us) (vs:=.ref p::vs) Fo hr hb .nil D6 I2 (.cons rfl r2) ⟨.ref p::ds,st2,Qd,by rw[Be];exact .cons (.ref p) is2,rs2,q2,(hq.after e1).after ev2⟩
def bp5{ob:AR}{F:Str->Bool}{Ph:Str->Spec}
  (hM:∀c Ca,BH X.K AO c=AA (AA (.ref Ca))->F (c6 c m)=AB->∃k f fd ps,Cls X.K Ca/\Meth X.K Ca m f/\FnOk X.prog X.w X.K X.mg X.base CX0 k f fd ps (t4 X.K (Ph (c6 c m)))/\Room k X.A/\l0 X.K fd ps [])
  (hline:(apos.endLine==pos.line)=AB) (hbo:∀i p p',ob≠.Call (.Name i p) [] [] p') (ho:PE X ob (up X.K ta)) :
  PE X (.Call (.Attribute ob m apos) [] [] pos) (up X.K λenv st Q=>ta env st λx st1=>∃p c fs,x=.ref p/\st1 p=AA (.ins c fs)/\fs.lookup m=AC/\F (c6 c m)=AB/\Ph (c6 c m) [.ref p] st1 Q):=by
 intro pins s σ H Q I q;obtain⟨env,st,Qd,hE,hS,ht,hq⟩:=q;refine Jy (thn (ho pins s σ H (λv H1=>∃p c fs st1,v=.ref p/\Ev st H st1 H1/\RelS X.K st1 H1/\st1 p=AA (.ins c fs)/\fs.lookup m=AC/\F (c6 c m)=AB/\Ph (c6 c m) [.ref p] st1 Qd) I ⟨env,st,_,hE,hS,ht,λv d H1 st1 ev is rs q1=>?_⟩) λu s1 z36=>?_) (az0 hbo rfl hline)
 ·obtain⟨p,c,fs,rfl,q1⟩:=q1;exact⟨p,c,fs,st1,is.ref_inv,ev,rs,q1⟩
 obtain⟨v,H1,I1,rx,p,c,fs,st1,ev,e1,rs,h1,h2,h3,h4⟩:=z36;subst ev;cases rx;obtain⟨Ca,dx,vs,hH,hn,r⟩:=rs.ins h1;obtain⟨k,f,fd,ps,cl,me,Fo,hr,hb⟩:=hM c Ca hn h3;have hl:vs.lookup m=AC:=by
  rcases r.look m with⟨_,l2⟩|⟨d',v',l1,_,_⟩
  ·exact l2
  ·rw[h2]at l1;cases l1
 refine am5 I1 hH cl me hl ?_;exact KY (first:=[.ref p]) I1.kIn me.kp (Q7 (us:=[.ref p]) (vs:=[.ref p]) Fo hr hb .nil D6 I1 (.cons rfl .nil) ⟨[.ref p],st1,Qd,by rw[Be];exact .cons (.ref p) .nil,rs,h4,hq.after e1⟩)
def au9{c}{H1}{st st1}{Qd}{Q}(hn:BH X.K AO c=AA (AA (.ref Ca)))(ev:Ev st H st1 H1)(is:IsDs X.K H1 ds vs)(rs:RelS X.K st1 H1)(hq:o3 X.K st H Qd Q)
  (q:∀p,st1 p=AC->sp (.ref p::ds) (b7 st1 p (.ins c [])) λv st2=>v=.non/\Qd (.ref p) st2):∀x dx,H1 x=AC->H1 dx=AC->dx≠x->t4 X.K sp (.ref x::(vs++[])) (upd (upd H1 dx (.own x)) x (.ins Ca dx [])) (λv H2=>v=.non/\Q (.ref x) H2) E0:=by
 intro x dx hx hdx hne;have tk1:TK X.K H1 (upd H1 dx (.own x)):=TK.new hdx;have hx':upd H1 dx (.own x) x=AC:=e8 (λz=>hne z.symm)▸hx
 have tk2:TK X.K (upd H1 dx (.own x)) (upd (upd H1 dx (.own x)) x (.ins Ca dx [])):=TK.new hx';refine⟨.ref x::ds,b7 st1 x (.ins c []),_,by rw[Be];exact .cons (.ref x) ((is.mono tk1).mono tk2),(rs.new hdx).putAny tk2 ⟨Ca,dx,[],n0,hn,.nil⟩ (by simp_all),q x (rs.free hx),λv d H2 st2 ev2 is2 rs2 q2=>?_⟩;obtain⟨rfl,q2⟩:=q2;cases is2;refine⟨rfl,hq _ (.ref x) H2 st2 (λb o hb hs=>?_) (.ref x) rs2 q2⟩;obtain⟨⟨o1,b1,t1⟩,b2⟩:=ev b o hb hs;have nx:=o6 b1 hx;have nd:=o6 b1 hdx;obtain⟨⟨o2,c1,t2⟩,c2⟩:=ev2 b o1 (by rwa[e8 nx,e8 nd]) (i9 nx▸b2);exact⟨⟨o2,c1,t1.trans t2⟩,c2⟩
def by2{c:Str}{es:List AR}{k:Nat}{f:AI}(hn:BH X.K AO c=AA (AA (.ref Ca)))(M:Mk X.K Ca f)(Fo:FnOk X.prog X.w X.K X.mg X.base CX0 k f fd ps (t4 X.K sp))(hr:Room (k+1) X.A)(hg:Gl X c)(hm:X.mg c=AA (.ref Ca))(hb:l0 X.K fd ps [])
  (ha:PA X (a::es) (upA X.K n t)) (hdb:(c==("__debug__":Str))=AH) (hs:∀e p,a≠.Starred e p) (hpl:(CU pos (Am es X.env)).any (·.1)=AH) :
  PE X (.Call (.Name c p) (a::es) [] pos) (up X.K λenv st Q=>t env st λds st1=>∀p,st1 p=AC->sp (.ref p::ds) (b7 st1 p (.ins c [])) λv st2=>v=.non/\Q (.ref p) st2):=
 PE.imp (b03 M Fo hr hg hm hb .nil D6 ha hdb (k5 hs) hpl) λσ H Q q=>by
  obtain⟨env,st,Qd,hE,hS,ht,hq⟩:=q;exact⟨env,st,_,hE,hS,ht,λvs ds H' st' ev is hl rs q=>au9 hn ev is rs hq q⟩
def bp6{c:Str}{k:Nat}{f:AI}(hn:BH X.K AO c=AA (AA (.ref Ca)))(M:Mk X.K Ca f)(Fo:FnOk X.prog X.w X.K X.mg X.base CX0 k f fd ps (t4 X.K sp))(hr:Room (k+1) X.A)(hg:Gl X c)(hm:X.mg c=AA (.ref Ca))(hb:l0 X.K fd ps [])(hdb:(c==("__debug__":Str))=AH):
  PE X (.Call (.Name c p) [] [] pos) (up X.K λenv st Q=>∀p,st p=AC->sp [.ref p] (b7 st p (.ins c [])) λv st2=>v=.non/\Q (.ref p) st2):=
 PE.imp (bo2 M Fo hr hg hm hb .nil D6 hdb) λσ H Q q=>by
  obtain⟨env,st,Qd,hE,hS,ht,hq⟩:=q;exact au9 (ds:=[]) (vs:=[]) hn Ev.refl .nil hS hq ht
def tyL{K}{st}{d}{v}(is:IsD K H d v)(rs:RelS K st H)(h:v2 d st):tyV K "list" v H:=by
 cases d<;>first|exact AT h|skip
 obtain⟨ds,hr⟩:=h;obtain⟨vs,hs,_⟩:=rs.rd hr;rw[is.ref_inv];exact .inl ⟨rfl,vs,hs⟩
def ai0{nm}{id}{r}{g:D->D->Sto->DK->Prop}(slot:Slot "list" nm id)(hty:typeOf (.builtin id)=pure (.type "method_descriptor"))(hm:MtR X id r)
  (ha:PE X a (up X.K ta)) (hb:PE X b (up X.K tb)) (hbase:∀i p p',a≠.Call (.Name i p) [] [] p') (hs:∀e p,b≠.Starred e p) (hline:(apos.endLine==pos.line)=AB)
  (imp:∀v w d e H' st' Qd Q,IsD X.K H' d v->IsD X.K H' e w->RelS X.K st' H'->g d e st' Qd->o3 X.K st' H' Qd Q->r v [w] H' Q) :
  PE X (.Call (.Attribute a nm apos) [b] [] pos) (up X.K λenv st Q=>ta env st λx st1=>v2 x st1/\tb env st1 λy st2=>g x y st2 Q):=
 PE.imp (cn3 PySem.F.plainAttrs_list slot hty hm ha (F0 hb hs) (v7 hbase) (by rw[k5 hs];rfl) hline (k5 hs) rfl) λσ H Q q=>by
  obtain⟨env,st,Qd,hE,hS,ht,hq⟩:=q;refine⟨env,st,_,hE,hS,ht,λv d H1 st1 ev is rs q1=>⟨tyL is rs q1.1,?_⟩⟩;refine⟨env,st1,λds st2=>match ds with|[e]=>g d e st2 Qd|_=>False,hE.mono (ev.tk hS),rs,q1.2,λvs ds H' st' ev2 is2 hl rs2 q2=>?_⟩
  match ds,hl with
  |[e],_=>
   obtain⟨w,ws,rfl,i1,i2⟩:=is2.inv_cons;rw[i2.inv_nil];exact imp v w d e H' st' Qd Q (is.mono (ev2.tk rs)) i1 rs2 q2 ((hq.after ev).after ev2)
def b66(ha:PE X a (up X.K ta))(hb:PE X b (up X.K tb))(hbase:∀i p p',a≠.Call (.Name i p) [] [] p')(hs:∀e p,b≠.Starred e p)(hline:(apos.endLine==pos.line)=AB):
  PE X (.Call (.Attribute a "append" apos) [b] [] pos) (up X.K λenv st Q=>ta env st λx st1=>v2 x st1/\tb env st1 λy st2=>T4 x y st2 Q):=
 ai0 PySem.F.slot_list_append PySem.F.type_list_append ao9 ha hb hbase hs hline λv w d e H' st' Qd Q i1 i2 rs ht hq=>by
  cases d<;>first|exact AT ht|skip
  obtain⟨ds,hr,hz,ht⟩:=ht;obtain⟨vs,hH,r⟩:=rs.lst hr;rw[i1.ref_inv];exact⟨_,vs,w,rfl,rfl,hH,r.len▸hz,hq _ _ _ _ (Ev.put hr) .non (rs.putOld hH (r.append (.cons i2 .nil))) ht⟩
def be2 l(items:Array AG)n(b)(items2:Array AG)n2(sl:Array (Option AG))(hs0:¬(!items.isEmpty&&Bx (items.size+items2.size))=AB)(hs1:items.size<=sizeLine)(hs2:items.size+items2.size<=sizeLine+1):
  LD (DR.«list.extend» ⟨[.ref l,.ref b],[]⟩) (λ_ R s=>s.heap.get? l=AA {cls:=.type "list",dict:=AC,data:=.seq items n,slots:=#[]}/\s.heap.get? b=AA {cls:=.type "tuple",dict:=AC,data:=.seq items2 n2,slots:=sl}/\R (.ok (.ret Bh)) {s with heap:=s.heap.update l (Eu λx=>x++items2),toks:=s.toks}):=
 .of_wp λprog w A R s h=>by
  obtain⟨hl,hb,h⟩:=h;have hz':(items++items2).size<=sizeLine+1:=by simp_all
  wp_walk using(wpAny_updateSeq hl rfl),Gb hl,Gb hb;exact⟨_,rfl,h⟩
abbrev at2(K:AN):V->List V->Hp->VK->Prop:=λx vs H Q=>∃l b xs zs,x=.ref l/\vs=[.ref b]/\H l=AA (.lst xs)/\SqT K H b zs/\xs.length+zs.length<=sizeLine/\Q .non (upd H l (.lst (xs++zs)))
def be8:MtM X "list.extend" (at2 X.K):=by
 intro pins s σ H x vs v us Q I rx rv h;obtain⟨l,b,xs,zs,rfl,rfl,hH,hB,hz,q⟩:=h;cases rx;obtain⟨u,rfl,ru⟩:=rv.one;cases ru;obtain⟨z,its,n,r,hl,e⟩:=I.lstM hH;obtain⟨its2,r2,⟨o,e2,ec,ed,n2,es⟩,z2⟩:=I.tupleD hB;obtain⟨cls,dd,data,sl⟩:=o;simp only at ec ed es;subst ec ed es;have hl2:=r2.length;have hsz:its.toArray.size+its2.toArray.size<=sizeLine:=by rw[Aa,Aa];lia
 have hlong:¬(!its.toArray.isEmpty&&Bx (its.toArray.size+its2.toArray.size))=AB:=by
  rw[ar1 hsz,Gv];exact AK
 refine DV F.slot_list_extend ⟨_,e,rfl⟩ F.entry_list_extend (F.args_list_extend_2 _ _)
  (be2 l its.toArray n b its2.toArray n2 sl hlong (by rw[Aa];lia) ⋯) ⟨e,e2,?_⟩
 refine⟨.non,_,I.lset (its':=its++its2) hH e ∎ (r.append r2) ?_,rfl,q⟩;rw[AU];lia
def bw7:MtM X "list.extend" λx vs H Q=>av6 x vs H Q\/at2 X.K x vs H Q:=λpins s σ H x vs v us Q I rx rv h=>h.elim (bg7 pins s σ H x vs v us Q I rx rv) (be8 pins s σ H x vs v us Q I rx rv)
def cd7(ha:PE X a (up X.K ta))(hb:PE X b (up X.K tb))(hbase:∀i p p',a≠.Call (.Name i p) [] [] p')(hs:∀e p,b≠.Starred e p)(hline:(apos.endLine==pos.line)=AB):
  PE X (.Call (.Attribute a "extend" apos) [b] [] pos) (up X.K λenv st Q=>ta env st λx st1=>v2 x st1/\tb env st1 λy st2=>O1 x y st2 Q):=
 ai0 PySem.F.slot_list_extend PySem.F.type_list_extend bw7 ha hb hbase hs hline λv w d e H' st' Qd Q i1 i2 rs ht hq=>by
  cases d<;>first|exact AT ht|(cases e<;>first|exact AT ht|skip)
  ·obtain⟨ds,hr,hz,ht⟩:=ht;obtain⟨vs,hH,r⟩:=rs.lst hr;obtain⟨b,ws,rfl,hq2,r2⟩:=i2.tup_inv;rw[i1.ref_inv];exact .inr ⟨_,_,vs,ws,rfl,rfl,hH,hq2,by rwa[<-r.len,<-r2.len],hq _ _ _ _ (Ev.put hr) .non (rs.putOld hH (r.append r2)) ht⟩
  ·obtain⟨ds,es,hr,hr2,hz,ht⟩:=ht;obtain⟨vs,hH,r⟩:=rs.lst hr;obtain⟨ws,hH2,r2⟩:=rs.lst hr2;rw[i1.ref_inv,i2.ref_inv];exact .inl ⟨_,_,vs,ws,rfl,rfl,hH,hH2,by rwa[<-r.len,<-r2.len],hq _ _ _ _ (Ev.put hr) .non (rs.putOld hH (r.append r2)) ht⟩
def bn5(ha:PE X a (up X.K ta))(hb:PE X b (up X.K tb))(hbase:∀i p p',a≠.Call (.Name i p) [] [] p')(hs:∀e p,b≠.Starred e p)(hline:(apos.endLine==pos.line)=AB):
  PE X (.Call (.Attribute a "pop" apos) [b] [] pos) (up X.K λenv st Q=>ta env st λx st1=>v2 x st1/\tb env st1 λy st2=>ag7 x y st2 Q):=
 ai0 PySem.F.slot_list_pop PySem.F.type_list_pop bo0 ha hb hbase hs hline λv w d e H' st' Qd Q i1 i2 rs ht hq=>by
  cases d<;>first|exact AT ht|(cases e<;>first|exact AT ht|skip)
  obtain⟨⟨b1,b2⟩,ds,k,d,hr,hk,hd,ht⟩:=ht;obtain⟨vs,hH,r⟩:=rs.lst hr;obtain⟨v',hv',is'⟩:=r.get hd;rw[i1.ref_inv,i2.int_inv];obtain⟨q1,q2,q3,q4⟩:=ae8 hk;exact⟨_,vs,_,k,v',rfl,rfl,hH,⋯,⋯,(r.len▸q1),hv',hq _ _ _ _ (Ev.put hr) (is'.mono (TK.put hH)) (rs.putOld hH (r.erase k)) ht⟩
def b48(ha:PE X a (up X.K ta))(hbase:∀i p p',a≠.Call (.Name i p) [] [] p')(hline:(apos.endLine==pos.line)=AB):
  PE X (.Call (.Attribute a "pop" apos) [] [] pos) (up X.K λenv st Q=>ta env st λx st1=>T5 x st1 Q):=
 PE.imp (a38 PySem.F.plainAttrs_list PySem.F.slot_list_pop PySem.F.type_list_pop cg4 ha (v7 hbase) hline) λσ H Q q=>up1 (f:=T5) q λv d H' st' Qd is rs ht hq=>by
  cases d<;>first|exact AT ht|skip
  obtain⟨ds,d,hr,ht⟩:=ht;obtain⟨vs,hH,r⟩:=rs.lst hr;have hl:=r.len;rw[AU,Ak]at hl;obtain⟨v',hv',is'⟩:=r.get (i:=ds.length) (d:=d) ∎;rw[is.ref_inv];refine⟨.inl ⟨rfl,vs,.inl (.inl hH)⟩,_,vs,v',rfl,rfl,hH,by rw[<-hl,Im];exact hv',hq _ _ _ (b7 st' _ (.lst ds)) (Ev.put hr) (is'.mono (TK.put hH)) (rs.putOld hH ?_) ht⟩;have e:vs.dropLast=vs.take ds.length:=by rw[List.dropLast_eq_take,<-hl,Im]
  rw[e];have q:=r.take ds.length
  rwa [List.take_left']at q
  rfl
end
end Ek
namespace Ek
open PySem PySem.Spec PyProof.Rows L2
variable [Tbs]
end Ek
namespace Ek
open PySem PySem.Spec PyProof.Rows L2
variable [Tbs]
variable{s:AL}{g:Str}{kvs:List (Str×D)}
section
variable {X:Cx} {a b c:AR} {ta tb tc:DT} {pos p:Pos}
@[reducible]noncomputable def z8(h:Heap)(a:AI)(T:List (Str×AG)):Prop:=KTD.TabOf (λ(d v:AG)=>v=d) h a T
def z8.typeIs{a}{T}(t:z8 s.heap a T):s.TypeIs (.ref a) "dict":=let⟨_,o,_,_,ho,hc,_⟩:=t;⟨o,ho,hc.1⟩
def z8.get{prog:Ah}{w:Aq}{A:BP}{E:AG->AL->Prop}{s:AL}{a:AI}{T:List (Str×AG)}{k:Str}{tk:Tok}{Q:Option AG->AL->Prop}(t:z8 s.heap a T)
  (h:Q (Bw k T) {s with toks:=s.toks+1}):AV (model prog w) A (Jz a (.str k tk)) Q E s:=by
 obtain⟨_,o,⟨l⟩,ep,ho,hc,hd,hr⟩:=t;refine AD (FC (AD (KTD.kt_dictFind_strs (s:={s with toks:=s.toks+1}) ho hd (by simpa using hr.exact) ?_)));have e:Bw k T=(l.find? λe=>e.key.isStr k).map (·.val):=by
  cases hat:Bw k T with
  |some d=>obtain⟨v,hv,rfl⟩:=hr.find_some hat;exact hv.symm
  |none=>exact(hr.find_none hat).symm
 have hf:findBy (λk v=>v.isStr k) (⟨l⟩:Array Dn) k=Bw k T:=by rw[e];simp[findBy]
 rw[<-hf,findBy_of_findIdx?]at h;cases hi:(⟨l⟩:Array Dn).findIdx? λe=>e.key.isStr k with
 |none=>rw[hi]at h;exact AJ h
 |some i=>rw[hi]at h;exact AD (wpAny_dictEntries (s:={s with toks:=s.toks+1}) ho hd (AJ h))
def bd8{prog}{w}{A}{E}{a}{T}{k}{tk}{u}{Q}(H:z8 s.heap a T)(hk:Bw k T=AA u)
  (h:Q u {s with toks:=s.toks+1}):AV (model prog w) A (Ep (.ref a) (.str k tk)) Q E s:=by
 unfold Ep
 try with_reducible refine CA ?_
 refine AD (Jo H.typeIs ∅ ?_);refine AD (Bu H.typeIs KA
  (BX KA H.typeIs entry_dict_getitem ?_ (args_dict_getitem _ _)))
 show AV _ _ (Jz a (.str k tk)>>=_) _ _ s;refine AD (H.get ?_);rw[hk];exact AJ ⟨u,rfl,AJ h⟩
def z8.dget{prog:Ah}{w:Aq}{A:BP}{E:AG->AL->Prop}{a:AI}{T:List (Str×AG)}{k:Str}{tk:Tok}{r:AG}{Q:AG->AL->Prop}(t:z8 s.heap a T)
  (h:Q ((Bw k T).getD r) {s with toks:=s.toks+1}):AV (model prog w) A (call (.builtin "dict.get") [.ref a,.str k tk,r]) Q E s:=by
 refine BX PySem.F.slot_dict_get t.typeIs PySem.F.entry_dict_get ?_ (PySem.F.args_dict_get_3 _ _ _);show AV _ _ (Jz a (.str k tk)>>=_) _ _ s;refine AD (t.get ?_);cases hf:Bw k T with
 |some v=>rw[hf]at h;exact AJ ⟨v,rfl,h⟩
 |none=>
  rw[hf]at h;show AV _ _ (Kf a (.str k tk)>>=_) _ _ _;exact AD (wpAny_missed_other t.1 (AJ ⟨r,rfl,h⟩))
structure GTab(P:Ah)(w:Aq)(K:AN)(mg:Str->Option AG)(g:Str)(kvs:List (Str×D)):Prop where
 ex:∃(a:AI)(T:List (Str×AG)),mg g=AA (.ref a)/\(∀h:Heap,K.In h->z8 h a T)/\(∀x d,o8 kvs x=AA d->∃u v,Bw x T=AA u/\c8 v u/\∀H,IsD K H d v)/\∀x,o8 kvs x=AC->Bw x T=AC
def b15(T:kvs≠[]->GTab X.prog X.w X.K X.mg g kvs)(hg:Gl X g)(hb:PE X b (up X.K tb))(hs:∀l u s p,b≠.Slice l u s p)(hdb:(g=="__debug__")=AH):
  PE X (.Subscript (.Name g p) b pos) (up X.K λenv st Q=>kvs≠[]/\tb env st λx st1=>∃w d,x=.str w/\o8 kvs w=AA d/\Q d st1):=by
 intro pins s σ H Q I q;obtain⟨env,st,Qd,hE,hS,⟨hne,ht⟩,hq⟩:=q;obtain⟨t,vs,hm,hT,hl,_⟩:=(T hne).ex;have q:up X.K (λenv st Q=>tb env st λx st1=>∃w d,x=.str w/\o8 kvs w=AA d/\Q d st1) σ H Q:=⟨env,st,Qd,hE,hS,ht,hq⟩;refine b22 PySem.F.slot_dict_getitem.lookup (am6 hs) (L3 I hg hm ?_ hdb);refine thn (hb pins s σ H (λv H1=>∃(w:Str)(d:D),v=.str w/\o8 kvs w=AA d/\∀v',IsD X.K H1 d v'->Q v' H1) I (up1 q λv d H' st' Qd is rs ht hq=>?_)) λiv s2 z37=>?_
 ·obtain⟨w,d,rfl,lk,ht⟩:=ht;exact⟨w,d,is.str_inv,lk,λv' is'=>hq.here is' rs ht⟩
 ·obtain⟨y,H2,I2,ry,w,d,ey,lk,q2⟩:=z37;subst ey;obtain⟨tt,rfl⟩:=ry;obtain⟨u,v',h1,rv,is'⟩:=hl w d lk;have hh:=hT s2.heap I2.kIn;exact⟨hh.typeIs,bd8 hh h1 ⟨v',H2,I2.tok _,rv,q2 v' (is' H2)⟩⟩
def bx6{apos}(T:kvs≠[]->GTab X.prog X.w X.K X.mg g kvs)(hg:Gl X g)(hb:PE X b (up X.K tb))(hc:PE X c (up X.K tc))(hs:∀e p,b≠.Starred e p)(hs2:∀e p,c≠.Starred e p)(hline:(apos.endLine==pos.line)=AB)(hdb:(g=="__debug__")=AH):
  PE X (.Call (.Attribute (.Name g p) "get" apos) [b,c] [] pos) (up X.K λenv st Q=>kvs≠[]/\tb env st λx st1=>tc env st1 λy st2=>∃w,x=.str w/\Q ((o8 kvs w).getD y) st2):=by
 intro pins s σ H Q I q;obtain⟨env,st,Qd,hE,hS,⟨hne,ht⟩,hq⟩:=q;obtain⟨t,vs,hm,hT,hl,hno⟩:=(T hne).ex;have et:CU pos (Am [b,c] X.env)=[(AH,eval b X.env),(AH,eval c X.env)]:=by rw[k5 hs,k5 hs2];rfl
 refine wpAny_Call_method (v7 (λ_ _ _=>nofun)) (by rw[et];rfl) hline PySem.F.plainAttrs_dict PySem.F.slot_dict_get PySem.F.type_dict_get (L3 I hg hm ?_ hdb);have hh:=hT s.heap I.kIn;refine⟨hh.typeIs,λb e=>?_,?_⟩
 ·injection e with e
  subst e;obtain⟨_,o,_,_,ho,hc,_⟩:=hh;exact⟨o,ho,hc.2.1⟩
 ·rw[et];refine Ef rfl (Hl (Cz (thn (hb pins s σ H (λv H1=>∃d st1,Ev st H st1 H1/\IsD X.K H1 d v/\RelS X.K st1 H1/\tc env st1 λy st2=>∃w,d=.str w/\Qd ((o8 kvs w).getD y) st2) I ⟨env,st,_,hE,hS,ht,λv d H' st' ev is rs q=>⟨d,st',ev,is,rs,q⟩⟩) λiv s2⟨y,H2,I2,ry,d,st1,ev1,is1,rs1,q1⟩=>
   Cz (thn (hc pins s2 σ H2 (λv H3=>∃e st2,Ev st1 H2 st2 H3/\IsD X.K H3 e v/\RelS X.K st2 H3/\∃w,d=.str w/\Qd ((o8 kvs w).getD e) st2) I2 ⟨env,st1,_,hE.mono (ev1.tk hS),rs1,q1,λv d H' st' ev is rs q=>⟨d,st',ev,is,rs,q⟩⟩) λfv s3⟨z,H3,I3,rz,e,st2,ev2,is2,rs2,w,ew,q2⟩=>EK ?_))))
  subst ew;rw[is1.str_inv]at ry;obtain⟨tt,rfl⟩:=ry;refine(hT s3.heap I3.kIn).dget ?_;cases lk:o8 kvs w with
  |some dv=>
   obtain⟨u,v',h1,rv,is'⟩:=hl w dv lk;rw[lk]at q2;rw[h1];exact⟨v',H3,I3.tok _,rv,(hq.after (ev1.trans ev2)).here (is' H3) rs2 q2⟩
  |none=>
   rw[lk]at q2;rw[hno w lk];exact⟨z,H3,I3.tok _,rz,(hq.after (ev1.trans ev2)).here is2 rs2 q2⟩
abbrev F7:List Key->List AG->Bool
 |[],us=>us.isEmpty
 |k::ks,us=>Dz (motive:=λ_=>Bool) us AH λu us=>Sum.casesOn (motive:=λ_=>Bool) k (λi=>FD i u) (λx=>HA x u)&&F7 ks us
theorem F7.is:∀{ks}{us},F7 ks us=AB->c0 (ks.map kV) us
 |[],[],_=>.nil
 |.inl i::ks,u::us,h=>have h:=FI.mp h;.cons (EI h.1) (F7.is h.2)
 |.inr x::ks,u::us,h=>have h:=FI.mp h;.cons (Hz h.1) (F7.is h.2)
abbrev aj7(ks:List Key):Option Obj->Bool
 |some o=>(match o.data with|.seq its _=>(o.cls==.type "tuple")&&o.dict.isNone&&AE (its.size<=1000)&&(F7 ks its.toList&&D.pures (ks.map kD))|_=>AH)
 |none=>AH
abbrev B4(K:AN):D->AG->Bool
 |.int j,u=>FD j u
 |.fn f,.ref a=>BH K AO f==AA (AA (.ref a))
 |.ktup ns,.ref a=>aj7 ns (K.lookup a)
 |_,_=>AH
theorem B4.is{K:AN}{d:D}{u:AG}(h:B4 K d u=AB):∃v,c8 v u/\∀H,IsD K H d v:=by
 cases d<;>first|exact⟨.int _,EI h,λH=>.int _⟩|(cases u<;>first|exact nomatch (show AH=AB from h)|skip)
 ·exact⟨.ref _,rfl,λH=>.fn (KP h)⟩
 ·rename_i ms a;have h:aj7 ms (K.lookup a)=AB:=h;cases hk:K.lookup a with
  |none=>rw[hk]at h;cases h
  |some o=>
   obtain⟨c,d,x,sl⟩:=o;rw[hk]at h;cases x<;>first|exact nomatch (show AH=AB from h)|skip
   rename_i its n;simp only[aj7,BI,beq_iff_eq,decide_eq_true_eq]at h;exact⟨.ref a,rfl,λH=>.ktup (.inr ⟨_,its,n,hk,h.1.1.1,by simpa using h.1.1.2,rfl,Ay h.1.2 ∅,F7.is h.2.1⟩) h.2.2⟩
abbrev ai3(K:AN)(e:Dn)(p:Str×D):Bool:=(match e.key with|.str x _=>x==p.1|_=>AH)&&B4 K p.2 e.val
abbrev M2(K:AN):List Dn->List (Str×D)->Bool
 |[],[]=>AB
 |e::es,p::ps=>ai3 K e p&&M2 K es ps
 |_,_=>AH
abbrev Y2(K:AN)(a:AI)(kvs:List (Str×D)):Bool:=match K.lookup a with
 |some ⟨c,dd,.dict es _,sl⟩=>(c==.type "dict")&&dd.isNone&&sl.isEmpty&&M2 K es.toList kvs&&!(a==Cp)
 |_=>AH
abbrev M9:List Dn->List (Str×D)->List (Str×AG)
 |e::es,(x,_)::r=>(x,e.val)::M9 es r
 |_,_=>[]
theorem au8{K}:∀(es)kvs,M2 K es kvs=AB->KTD.Rows (λd v=>v=d) es (M9 es kvs)
 |[],[],_=>.nil
 |[],_::_,h'=>by cases h'
 |_::_,[],h'=>by cases h'
 |e::es,(x,d)::ps,h'=>by
  simp only[M2,ai3,BI]at h';obtain⟨⟨h1,_⟩,h2⟩:=h'
  split at h1
  ·rename_i y t ek;have:=by simpa using h1
   subst this;exact .cons ek rfl (au8 es ps h2)
  ·cases h1
theorem ad6{K}:∀kvs(es),M2 K es kvs=AB->∀x,(∀d,o8 kvs x=AA d->∃u v,Bw x (M9 es kvs)=AA u/\c8 v u/\∀H,IsD K H d v)/\(o8 kvs x=AC->Bw x (M9 es kvs)=AC)
 |[],[],_,x=>⟨λd h=>(nomatch h),λ_=>rfl⟩
 |[],_::_,h',x=>by cases h'
 |(y,e)::r,[],h',x=>by cases h'
 |(y,e)::r,en::es,h',x=>by
  simp only[M2,ai3,BI]at h';obtain⟨⟨_,h1⟩,h2⟩:=h';have ih:=ad6 r es h2 x;simp only[o8,M9,Bw]
  by_cases hy:y=x
  ·rw[if_pos hy,if_pos (by simp[hy])];obtain⟨v,rv,is⟩:=B4.is h1;exact⟨λd h=>by cases h;exact⟨_,v,rfl,rv,is⟩,λh=>by cases h⟩
  ·rwa[if_neg hy,if_neg (by simp[DF hy])]
def au6{P}{w}{K}{mg}{h}{a}(Xk:K.In h)(G:h.Ns AO mg)(a1:BH K AO g=AA (AA (.ref a)))(t1:Y2 K a kvs=AB):GTab P w K mg g kvs:=by
 unfold Y2 at t1
 split at t1
 ·rename_i c dd es ep sl hk;simp only[BI,beq_iff_eq,Gn]at t1;obtain⟨⟨⟨⟨e1,e2⟩,e3⟩,e4⟩,e5⟩:=t1;refine⟨a,M9 es.toList kvs,HL Xk G a1,λh' hK'=>⟨e5,_,es,ep,hK' a _ hk,⟨e1,by simpa using e2,by simpa using e3⟩,rfl,au8 _ _ e4⟩,λx=>(ad6 kvs _ e4 x).1,λx=>(ad6 kvs _ e4 x).2⟩
 ·cases t1
end
end Ek
namespace Ek
open PySem PySem.Spec PyProof.Rows L2
variable [Tbs]
variable{q:AI}{ds:List D}{H1:Hp}
section
variable {X:Cx} {a b c:AR} {ta tb tc:DT} {pos p:Pos}
structure ItOk(K:AN)(H1:Hp)(J:L2.It)(items:List D)(chk:Sto->Prop):Prop where
 go:∀(i:Nat)st H,TK K H1 H->RelS K st H->chk st->i<items.length->J.go i H
 yld:∀(i:Nat)st H x H',TK K H1 H->RelS K st H->chk st->i<items.length->J.yld i H x H'->∃d,items[i]?=AA d/\IsD K H' d x/\Ev st H st H'/\RelS K st H'
 stop:∀st H,TK K H1 H->RelS K st H->chk st->J.stop items.length H
abbrev upI(K:AN)(t:c9->Sto->ItK->Prop):TI:=λσ H R=>∃env st k,RelE K H env σ/\RelS K st H/\t env st k/\∀items chk st' H' J,Ev st H st' H'->RelS K st' H'->ItOk K H' J items chk->k items chk st'->R J H'
def _root_.L2.PI.imp{X}{tg x}{t t'}(h:PI X tg x t)(i:∀σ H Q,t' σ H Q->t σ H Q):PI X tg x t':=λpins s σ H Q I q=>h pins s σ H Q I (i σ H Q q)
variable {K:AN}
def cd2{vs:List V}(hq:SqT K H1 q vs)(r:IsDs K H1 ds vs):ItOk K H1 (Itt K q) ds (λ_=>True) where
 go:=λi st H tk rs _ hi=>by
  obtain⟨v,hv,_⟩:=r.get (AM hi);exact⟨vs,v,tk.1.1 _ _ hq,hv⟩
 yld:=λi st H x H' tk rs _ hi y=>by
  obtain⟨rfl,y⟩:=y;obtain⟨d,hd,is⟩:=r.get' (y vs (tk.1.1 _ _ hq));exact⟨d,hd,is.mono tk,Ev.refl,rs⟩
 stop:=λst H tk rs _=>⟨vs,tk.1.1 _ _ hq,r.len▸AW _⟩
def b39:ItOk K H1 (Itl K q) ds λst=>rdS st q ds where
 go:=λi st H tk rs hc hi=>by
  obtain⟨vs,hs,r⟩:=rs.rd hc;obtain⟨v,hv,_⟩:=r.get (AM hi);exact⟨vs,v,hs,hv⟩
 yld:=λi st H x H' tk rs hc hi y=>by
  obtain⟨rfl,y⟩:=y;obtain⟨vs,hs,r⟩:=rs.rd hc;obtain⟨d,hd,is⟩:=r.get' (y vs hs);exact⟨d,hd,is,Ev.refl,rs⟩
 stop:=λst H tk rs hc=>by
  obtain⟨vs,hs,r⟩:=rs.rd hc;exact⟨vs,hs,r.len▸AW _⟩
def a05{lo}{n}:ItOk K H1 (Itr lo n) (l8 lo n) (λ_=>True) where
 go:=λi st H tk rs _ hi=>by show i<n;simpa[l8]using hi
 yld:=λi st H x H' tk rs _ hi y=>by
  obtain⟨rfl,rfl⟩:=y;have hi':=by simpa[l8]using hi
  exact⟨.int (lo+i),by simp[l8,hi'],.int _,Ev.refl,rs⟩
 stop:=λst H tk rs _=>by show n<=(l8 lo n).length;simp[l8]
theorem ad0:∀ds(k),(k7 k ds).length=ds.length
 |[],_=>rfl
 |d::ds,k=>by simp[k7,ad0 ds (k+1)]
theorem ap1:∀ds(k i:Nat)(d:D),ds[i]?=AA d->(k7 k ds)[i]?=AA (.tup [.int ((k+i:Nat)),d])
 |[],k,i,d,h=>by simp at h
 |e::ds,k,0,d,h=>by simp at h;subst h;rfl
 |e::ds,k,i+1,d,h=>by
  have:=ap1 ds (k+1) i d (by simpa using h);have e:k+(i+1)=k+1+i:=by lia
  rw[e];simpa[k7]using this
def av1{sq}{chk}(h:∀st H,TK K H1 H->RelS K st H->chk st->∃vs,sq H vs/\IsDs K H ds vs):ItOk K H1 (Ite K sq) (k7 0 ds) chk where
 go:=λi st H tk rs hc hi=>by
  obtain⟨vs,hs,r⟩:=h st H tk rs hc;rw[ad0]at hi;obtain⟨v,hv,_⟩:=r.get (AM hi);exact⟨vs,v,hs,hv⟩
 yld:=λi st H x H' tk rs hc hi y=>by
  obtain⟨t,v,ht,rfl,rfl,y⟩:=y;obtain⟨vs,hs,r⟩:=h st H tk rs hc;obtain⟨d,hd,is⟩:=r.get' (y vs hs);refine⟨_,ap1 ds 0 i d hd,IsD.mk (SqX.of n0) (.cons ?_ (.cons (is.mono (TK.new ht)) .nil)),Ev.new ht,rs.new ht⟩;have e:0+i=i:=by simp
  rw[e];exact .int _
 stop:=λst H tk rs hc=>by
  obtain⟨vs,hs,r⟩:=h st H tk rs hc;exact⟨vs,hs,by rw[ad0,r.len]⟩
def cf2:ItOk K H1 (Itv K q ds.length) ds.reverse (λst=>rdS st q ds) where
 go:=λi st H tk rs hc hi=>by
  obtain⟨vs,hs,r⟩:=rs.rd hc;exact⟨⟨vs,hs,r.len.symm⟩,by simpa using hi⟩
 yld:=λi st H x H' tk rs hc hi y=>by
  obtain⟨rfl,y⟩:=y;obtain⟨vs,hs,r⟩:=rs.rd hc;have hi':i<ds.length:=by simpa using hi
  obtain⟨d,hd,is⟩:=r.get' (y vs hs);exact⟨d,by rw[List.getElem?_reverse hi'];exact hd,is,Ev.refl,rs⟩
 stop:=λst H tk rs hc=>by
  obtain⟨vs,hs,r⟩:=rs.rd hc;exact⟨⟨vs,hs,r.len.symm⟩,∎⟩
variable {tg:AR}
def b94(ha:PE X a (up X.K ta)):PI X tg a (upI X.K λenv st k=>ta env st λd st1=>(∃ds,d=.tup ds/\k ds (λ_=>True) st1)\/∃a ds,d=.ref a/\rdS st1 a ds/\k ds (λst'=>rdS st' a ds) st1):=by
 intro pins s σ H R I q;obtain⟨env,st,kk,hE,hS,ht,hq⟩:=q;refine thn (ha pins s σ H (λv H1=>∃d st1,Ev st H st1 H1/\IsD X.K H1 d v/\RelS X.K st1 H1/\((∃ds,d=.tup ds/\kk ds (λ_=>True) st1)\/∃a ds,d=.ref a/\rdS st1 a ds/\kk ds (λst'=>rdS st' a ds) st1)) I ⟨env,st,_,hE,hS,ht,λv d H1 st1 ev is rs q1=>⟨d,st1,ev,is,rs,q1⟩⟩) λu s1 z38=>?_
 obtain⟨v,H1,I1,r1,d,st1,ev,is,rs,q1⟩:=z38;rcases q1 with⟨ds,rfl,q1⟩|⟨q,ds,rfl,hr,q1⟩
 ·obtain⟨q,vs,rfl,hsq,r⟩:=is.tup_inv;cases r1;obtain⟨its,rv,pl,hz⟩:=I1.tuple hsq;refine Ec (pl) ?_;refine⟨s1.heap.objs.size,[s1.heap.objs.size],_,_,H1,rfl,I1.kept λb o=>AQ _,bg0 q _,⟨_,Ai _ rfl,rfl,rfl⟩,λb hb=>?_,hq ds _ st1 H1 _ ev rs (cd2 hsq r) q1⟩;have e:=by simpa using hb
  subst e;exact I1.fpOk (AW _) (I1.hok.fresh (AW _))
 ·rw[is.ref_inv]at r1;cases r1;obtain⟨vs,hsq,r⟩:=rs.rd hr;obtain⟨its,rv,pl,hz⟩:=I1.list hsq;refine Gj pl.isList ?_;refine⟨s1.heap.objs.size,[s1.heap.objs.size],_,_,H1,rfl,I1.kept λb o=>AQ _,bj7 q _,⟨_,Ai _ rfl,rfl,rfl⟩,λb hb=>?_,hq ds _ st1 H1 _ ev rs b39 q1⟩;have e:=by simpa using hb
  subst e;exact I1.fpOk (AW _) (I1.hok.fresh (AW _))
def cg5(hg:Gl X "range")(hm:X.mg "range"=AC)(ha:PE X a (up X.K ta))(hs:∀e p,a≠.Starred e p):PI X tg (.Call (.Name "range" p) [a] [] pos) (upI X.K λenv st k=>ta env st λd st1=>∃j:Int,d=.int j/\(-2^62<=j/\j<2^62)/\k (l8 0 j.toNat) (λ_=>True) st1):=
 PI.imp (bj6 hg hm (F0 ha hs) (by rw[k5 hs];rfl)) λσ H R q=>by
  obtain⟨env,st,kk,hE,hS,ht,hq⟩:=q;refine⟨env,st,λds st1=>match ds with|[d]=>∃j:Int,d=.int j/\(-(2^62)<=j/\j<2^62)/\kk (l8 0 j.toNat) (λ_=>True) st1|_=>False,hE,hS,ht,λvs ds H' st' ev is hl rs q1=>?_⟩
  match ds,hl with
  |[d],_=>
   obtain⟨v,ws,rfl,i1,i2⟩:=is.inv_cons;rw[i2.inv_nil];obtain⟨j,rfl,hj,q1⟩:=q1;exact⟨j,by rw[i1.int_inv],hj.1,hj.2,hq _ _ st' H' _ ev rs a05 q1⟩
def bs6(hg:Gl X "range")(hm:X.mg "range"=AC)(ha:PE X a (up X.K ta))(hb:PE X b (up X.K tb))(hs:∀e p,a≠.Starred e p)(hs':∀e p,b≠.Starred e p):PI X tg (.Call (.Name "range" p) [a,b] [] pos) (upI X.K λenv st k=>ta env st λd st1=>tb env st1 λe st2=>∃i j:Int,d=.int i/\e=.int j/\(-(2^62)<=i/\i<2^62/\-(2^62)<=j/\j<2^62)/\k (l8 i (j-i).toNat) (λ_=>True) st2):=
 PI.imp (bi5 hg hm (a01 ha hb hs hs') (by rw[k5 hs,k5 hs'];rfl) (by rw[k5 hs'];rfl)) λσ H R q=>by
  obtain⟨env,st,kk,hE,hS,ht,hq⟩:=q;refine⟨env,st,(λds st1=>match ds with|[d,e]=>∃i j:Int,d=.int i/\e=.int j/\(-(2^62)<=i/\i<2^62/\-(2^62)<=j/\j<2^62)/\kk (l8 i (j-i).toNat) (λ_=>True) st1|_=>False),hE,hS,ht,λvs ds H' st' ev is hl rs q1=>?_⟩
  match ds,hl with
  |[d,e],_=>
   obtain⟨v,ws,rfl,i1,i2⟩:=is.inv_cons;obtain⟨w,ws',rfl,i3,i4⟩:=i2.inv_cons;rw[i4.inv_nil];obtain⟨i,j,rfl,rfl,hj,q1⟩:=q1;exact⟨i,j,by rw[i1.int_inv,i3.int_inv],hj,hq _ _ st' H' _ ev rs a05 q1⟩
def bw2{elts:List AR}{k0}{tp}(hg:Gl X "enumerate")(hm:X.mg "enumerate"=AC)(ha:PE X a (up X.K ta))(hs:∀e p,a≠.Starred e p):PI X (.Tuple elts k0 tp) (.Call (.Name "enumerate" p) [a] [] pos)
  (upI X.K λenv st k=>ta env st λd st1=>(∃ds,d=.tup ds/\k (k7 0 ds) (λ_=>True) st1)\/(∃a ds,d=.ref a/\rdS st1 a ds/\k (k7 0 ds) (λst'=>rdS st' a ds) st1)):=by
 have hst:Am [a] X.env=[(AH,eval a X.env)]:=by rw[k5 hs];rfl
 intro pins s σ H R I q;obtain⟨env,st,kk,hE,hS,ht,hq⟩:=q;have hA:=F0 ha hs;refine Jn (A9 I hg hm L2.bb6 (BY (thn (hA pos pins s σ H (λvs H1=>∃v d st1,vs=[v]/\Ev st H st1 H1/\IsD X.K H1 d v/\RelS X.K st1 H1/\((∃ds,d=.tup ds/\kk (k7 0 ds) (λ_=>True) st1)\/(∃a ds,d=.ref a/\rdS st1 a ds/\kk (k7 0 ds) (λst'=>rdS st' a ds) st1))) I
  ⟨env,st,(λds st1=>match ds with|[d]=>(∃ds,d=.tup ds/\kk (k7 0 ds) (λ_=>True) st1)\/(∃a ds,d=.ref a/\rdS st1 a ds/\kk (k7 0 ds) (λst'=>rdS st' a ds) st1)|_=>False),hE,hS,ht,λvs ds H' st' ev is hl rs q1=>by
   match ds,hl with
   |[d],_=>
    obtain⟨v,ws,rfl,i1,i2⟩:=is.inv_cons;rw[i2.inv_nil];exact⟨v,d,st',rfl,ev,i1,rs,q1⟩⟩) λus s1⟨vs,H1,I1,r1,v,d,st1,e1,ev,is,rs,q1⟩=>?_) hst rfl))
 subst e1;obtain⟨u,rfl,ru⟩:=r1.one
 rcases q1 with⟨ds,rfl,q1⟩|⟨q,ds,rfl,hr,q1⟩
 ·obtain⟨l,vs,rfl,hsq,r⟩:=is.tup_inv;cases ru;exact bn7 I1 hsq (hq _ _ st1 H1 _ ev rs (av1 λst H tk rs _=>⟨vs,tk.1.1 _ _ hsq,r.mono tk⟩) q1)
 ·rw[is.ref_inv]at ru;cases ru;obtain⟨vs,hsq,r⟩:=rs.rd hr;exact bo5 I1 hsq (hq _ _ st1 H1 _ ev rs (av1 λst H tk rs hc=>rs.rd hc) q1)
def b58(hg:Gl X "reversed")(hm:X.mg "reversed"=AC)(ha:PE X a (up X.K ta))(hs:∀e p,a≠.Starred e p):PI X tg (.Call (.Name "reversed" p) [a] [] pos) (upI X.K λenv st k=>ta env st λd st1=>∃a ds,d=.ref a/\rdS st1 a ds/\k ds.reverse (λst'=>rdS st' a ds) st1):=
 PI.imp (bx0 hg hm (F0 ha hs) (by rw[k5 hs];rfl)) λσ H R q=>by
  obtain⟨env,st,kk,hE,hS,ht,hq⟩:=q;refine⟨env,st,λds st1=>match ds with|[d]=>∃a ds,d=.ref a/\rdS st1 a ds/\kk ds.reverse (λst'=>rdS st' a ds) st1|_=>False,hE,hS,ht,λvs ds H' st' ev is hl rs q1=>?_⟩
  match ds,hl with
  |[d],_=>
   obtain⟨v,ws,rfl,i1,i2⟩:=is.inv_cons;rw[i2.inv_nil];obtain⟨q,ds,rfl,hr,q1⟩:=q1;obtain⟨vs,hsq,r⟩:=rs.rd hr;exact⟨q,vs,by rw[i1.ref_inv],hsq,(r.len▸hq _ _ st' H' _ ev rs cf2 q1)⟩
end
end Ek
namespace PySem
end PySem
namespace L2
open PySem PySem.Spec PyProof.Rows
section
variable {X:Cx}
abbrev cw9:V->List V->Hp->VK->Prop:=λx vs H Q=>∃l xs,x=.ref l/\vs=[]/\H l=AA (.lst xs)/\Q .non (upd H l (.lst xs.reverse))
def b67:MtM X "list.reverse" cw9:=by
 intro pins s σ H x vs v us Q I rx rv h;obtain⟨l,xs,rfl,rfl,hH,q⟩:=h;cases rx;have hus:=rv.zero;subst hus;obtain⟨z,its,n,r,hl,e⟩:=I.lstM hH;refine DV F.slot_list_reverse ⟨_,e,rfl⟩ F.entry_list_reverse (F.args_list_reverse_1 _) (AutoSeq1.list_reverse_list_0 l its.toArray n (by rw[Aa];lia)) ⟨e,?_⟩;refine⟨.non,_,I.lset (its':=its.reverse) hH e ?_ r.reverse ?_,rfl,q⟩
 ·simp
 ·rw[IM];lia
end
end L2
namespace Ek
open PySem PySem.Spec PyProof.Rows L2
variable [Tbs]
section
variable {X:Cx} {a:AR} {ta:DT} {pos:Pos}
def bt8{apos}(ha:PE X a (up X.K ta))(hbase:∀i p p',a≠.Call (.Name i p) [] [] p')(hline:(apos.endLine==pos.line)=AB):
  PE X (.Call (.Attribute a "reverse" apos) [] [] pos) (up X.K λenv st Q=>ta env st λx st1=>S7 x st1 Q):=
 PE.imp (a38 PySem.F.plainAttrs_list PySem.F.slot_list_reverse PySem.F.type_list_reverse b67 ha (v7 hbase) hline) λσ H Q q=>up1 q λv d H' st' Qd is rs ht hq=>by
  cases d<;>first|exact AT ht|skip
  obtain⟨ds,hr,ht⟩:=ht;obtain⟨vs,hH,r⟩:=rs.lst hr;rw[is.ref_inv];exact⟨.inl ⟨rfl,vs,.inl (.inl hH)⟩,_,vs,rfl,rfl,hH,hq _ _ _ (b7 st' _ (.lst ds.reverse)) (Ev.put hr) .non (rs.putOld hH r.rev) ht⟩
end
end Ek
namespace PySem
open PyProof.Rows
namespace F
end F
end PySem
namespace L2
open PySem PySem.Spec PyProof.Rows
end L2
namespace Ek
open PySem PySem.Spec PyProof.Rows L2
variable [Tbs]
end Ek
namespace Ek
open PySem PySem.Spec PyProof.Rows L2
variable [Tbs]
section
variable {X:Cx} {a b:AR} {ta tb:DT} {pos p:Pos} {K:AN}
def cb6(hc:X.calm=AB)(hg:Gl X "min")(hm:X.mg "min"=AC)(ha:PE X a (up X.K ta))(hb:PE X b (up X.K tb))(hs:∀e p,a≠.Starred e p)(hs':∀e p,b≠.Starred e p):
  PE X (.Call (.Name "min" p) [a,b] [] pos) (up X.K λenv st Q=>ta env st λx st1=>tb env st1 λy st2=>∃i j,x=.int i/\y=.int j/\Q (.int (if j<i then j else i)) st2):=
 PE.imp (ae2 (bj3 hc) hg hm (by decide+kernel) (a01 ha hb hs hs') ∅ ∅ (k5 hs) (by rw[k5 hs'];rfl)) λσ H Q q=>by
  obtain⟨env,st,Qd,hE,hS,ht,hq⟩:=q;refine⟨env,st,(λds st1=>match ds with|[x,y]=>∃i j,x=.int i/\y=.int j/\Qd (.int (if j<i then j else i)) st1|_=>False),hE,hS,ht,λvs ds H' st' ev is hl rs q1=>?_⟩
  match ds,hl with
  |[d,e],_=>
   obtain⟨v,ws,rfl,i1,i2⟩:=is.inv_cons;obtain⟨w,ws',rfl,i3,i4⟩:=i2.inv_cons;rw[i4.inv_nil];obtain⟨i,j,rfl,rfl,q1⟩:=q1;exact⟨i,j,by rw[i1.int_inv,i3.int_inv],(hq.after ev).here (.int _) rs q1⟩
end
end Ek
namespace PySem
open PySem.W PyProof.Rows SetTable
section
variable {prog:Ah} {w:Aq}
def at8{d:AI}{es:Array (Int×AG)}{ep:Nat}{t:Bq}(ws:Array (Int×AG))(sl:Nat->Nat)(hsz:ws.size=es.size)(z:sl 0=0)
  (go:∀i,(h:i<ws.size)->v5 w d es ep t (sl i) i=AA (ws[i].2,sl (i+1))) (fin:v5 w d es ep t (sl es.size) es.size=AC):SGives w d es ep t sl (λi=>(ws.getD i (0,.none)).2):=
 ⟨z,λi h=>by rw[go i ⋯];simp[CP,show i<ws.size by lia],fin⟩
theorem ay2{α:Type}(f:Nat->Nat):∀(fuel k:Nat)(l:List α)(out:Array α),l.length<=fuel->(Gp f fuel k l out).toList.Perm (out.toList++l)
 |0,k,l,out,h=>by have:l=[]:=CG.mp ⋯;subst this;simp[Gp]
 |fuel+1,k,l,out,h=>by
  unfold Gp
  by_cases hl:l=[]
  ·subst hl;simp
  ·have hp:0<l.length:=FP.mpr hl;have hi:=Ks (f k) hp;rw[AM hi];dsimp only;refine(ay2 f fuel (k+1) _ _ (by rw[List.length_eraseIdx_of_lt hi];lia)).trans ?_;rw[IU,Bz];refine List.Perm.append_left _ ?_;have e:l=l.take (f k % l.length)++l[f k % l.length]::l.drop (f k % l.length+1):=by rw[<-Cu hi,Hr]
   rw[List.eraseIdx_eq_take_drop_succ];exact(List.perm_middle (l₁:=l.take (f k % l.length))).symm.trans (by rw[<-e])
def bt6{d:AI}{es:Array (Int×AG)}{ep:Nat}{t:Bq}(S:S0 (J0 w) es t):∃ws:Array (Int×AG),ws.toList.Perm es.toList/\∃sl,SGives w d es ep t sl (λi=>(ws.getD i (0,.none)).2):=by
 by_cases ht:w.params.followText "set-order"=AB
 ·have p:=ay2 (w.params.setOrder d ep) es.size 0 es.toList #[] ∎;have hs:(HH (w.params.setOrder d ep) es).size=es.size:=by
   have:=p.length_eq;simpa[HH]using this
  refine⟨HH (w.params.setOrder d ep) es,by simpa[HH]using p,λ_=>0,at8 _ _ hs rfl (λi h=>?_) ?_⟩
  ·unfold v5;rw[if_pos ht,Bn h];rfl
  ·unfold v5;rw[if_pos ht,DM ⋯];rfl
 ·refine⟨es,.refl _,λi=>match i with|0=>0|i+1=>t.place.getD i 0+1,?_⟩;have bel:∀i,i<=es.size->below t.place (match i with|0=>0|i+1=>t.place.getD i 0+1)=i:=λi hi=>by
   refine(ag8 S.ris _).eq ⟨by rw[S.sz];exact hi,λk hk hki=>?_,λk hk hki=>?_⟩
   ·cases i with
    |zero=>exact absurd hki (Fn _)
    |succ i=>
     have hi':i<t.place.size:=by rw[S.sz];lia
     simp only[CP,hi',dif_pos]
     by_cases e:k=i
     ·subst e;exact Cy _
     ·exact Dy (Q9 S.ris hi' ⋯)
   ·cases i with
    |zero=>exact Ao _
    |succ i=>
     have hi':i<t.place.size:=by rw[S.sz];lia
     simp only[CP,hi',dif_pos];exact Q9 S.ris hk ⋯
  refine at8 _ _ rfl rfl (λi h=>?_) ?_
  ·unfold v5;have hp:i<t.place.size:=by rw[S.sz];exact h
   rw[if_neg ht,bel i (DJ h),Bn h,Bn hp];simp[CP,hp]
  ·unfold v5;rw[if_neg ht,bel _ (AW _),DM (AW _)]
def b70{ws acc:Array _}{es:List (Int×AG)}{ns:List Int}(p:ws.toList.Perm es)(hI:CL (es.map (·.2)) ns)(ha:Io (λi v=>v=(ws.getD i (0,.none)).2) acc es.length):∃ms,CL acc.toList ms/\ms.Perm ns:=by
 have e:acc.toList=ws.toList.map (·.2):=by
  refine GA λi=>?_;have hl:ws.size=es.length:=by rw[<-p.length_eq,BO]
  rw[Aw,CZ,CZ]
  by_cases h:i<es.length
  ·have h1:i<acc.size:=by rw[ha.1];exact h
   have h2:i<ws.size:=by lia
   have:=ha.2 i acc[i] (by simp[h1]);rw[Bn h1,Bn h2,this];simp[CP,h2]
  ·rw[DM (by rw[ha.1];lia),DM ⋯];rfl
 rw[e];exact ad4 (p.map _) hI
end
end PySem
namespace Ek
open PySem PySem.Spec PyProof.Rows L2 PySem.W
def bd1{prog:Ah}{w:Aq}{A:BP}{E:AG->AL->Prop}{s:AL}{T:String}{r d:AI}{n:Nat}{P:Nat->AG->Prop}{OK:Heap->Prop}{R:List AG->AL->Prop}(K:KdlSrc prog w T r d n P OK)(hh:A.handled=AC)(hok:OK s.heap)(hn:n<=sizeLine)
  (h:∀(h':Heap)(tk:Nat)(acc:Array AG),(∀b o,s.heap.get? b=AA o->h'.get? b=AA o)->s.heap.objs.size<h'.objs.size->Io P acc n->R acc.toList {s with heap:=h',toks:=tk}) :
  AV (model prog w) A (collect (.ref r)) R E s:=by
 have lt:=K.there _ hok;have ho:(s.heap.push (GV "list" #[] 0)).get? s.heap.objs.size=AA (GV "list" #[] 0):=Ai _ rfl;have ex:=kdl_extend (A:=A) (s:={s with heap:=s.heap.push (GV "list" #[] 0)}) (R:=λq s'=>∃h' tk acc c,q=.ok (.ret (.ref s.heap.objs.size))/\s'={s with heap:=h',toks:=tk}/\(∀b o,s.heap.get? b=AA o->h'.get? b=AA o)/\h'.get? s.heap.objs.size=AA (GV "list" acc c)/\Io P acc n)
  K hh (K.keep _ _ hok λb _ o e=>AQ _ e) s.heap.objs.size (Hg lt.1) (Hg lt.2) (.ref s.heap.objs.size) 0 ho (λh' tk acc c k q a=>⟨h',tk,acc,c,rfl,rfl,λb o e=>k b o (BE (Ar e)) (AQ _ e),q,a⟩) hn
 unfold collect;refine AD (Kt (DP entry_proto_collect' ?_));rw[Ce PySem.F.plain_proto_collect _];show AV _ A.in1 (newList []>>=λl=>again (.builtin "list.__iadd__" ⟨[l,.ref r],[]⟩)) _ _ s;refine AD (BM (AJ ⟨IK PySem.F.plain_list_iadd _,DP entry_list_iadd' ?_⟩));rw[Ce PySem.F.plain_list_iadd _];show AV _ A.in1 (Kg (.ref s.heap.objs.size) (.ref r) (.ref s.heap.objs.size)) _ _ _;refine Bf ex (λfin s' x=>?_) λe s' x=>by obtain⟨_,_,_,_,z,_⟩:=x;cases z
 have last:∀h' tk acc c,(∀b o,s.heap.get? b=AA o->h'.get? b=AA o)->h'.get? s.heap.objs.size=AA (GV "list" acc c)->Io P acc n->AV (model prog w) A (load s.heap.objs.size>>=λo=>match o.data with|.seq xs _=>pure xs.toList|_=>unsupported "internal:collect") R E {s with heap:=h',toks:=tk}:=λh' tk acc c k q a=>
  AD (JX q (AJ (h h' tk acc k (Ar q) a)))
 cases fin with
 |done f=>
  obtain⟨h',tk,acc,c,e,rfl,k,q,a⟩:=x;cases e;exact last h' tk acc c k q a
 |again c₁=>
  refine⟨x.1,Dd x.2 λq s₂ y=>?_⟩;obtain⟨h',tk,acc,c,rfl,rfl,k,q,a⟩:=y;exact last h' tk acc c k q a
def bg5{prog:Ah}{w:Aq}{A:BP}{E:AG->AL->Prop}{s:AL}{T:String}{r d:AI}{n:Nat}{P:Nat->AG->Prop}{OK:Heap->Prop}{R:List Int->Prop}{Q:AG->AL->Prop}(K:KdlSrc prog w T r d n P OK)(hh:A.handled=AC)(hok:OK s.heap)(hn:n<64)
  (hi:∀acc:Array AG,Io P acc n->∃ns,CL acc.toList ns/\R ns)
  (h:∀(h':Heap)(tk:Nat)(l:AI)(out:Array AG)(ns ns':List Int)(e:Nat),R ns->ns.length=n->CL out.toList ns'->ns'.Perm ns->ns'.Pairwise (·<=·)->(∀b o,s.heap.get? b=AA o->h'.get? b=AA o)->s.heap.objs.size<=l->h'.get? l=AA (GV "list" out e)->Q (.ref l) {s with heap:=h',toks:=tk}) :
  AV (model prog w) A (PySem.call (.builtin "sorted") [.ref r]) Q E s:=by
 refine Calls.call_function_entry kind_sorted plain_sorted entry_sorted (args_sorted1 _) ?_;unfold DR.«sorted»;refine AD (m:=checkCount "sorted" 1 1 _) (AJ ?_);refine AD (bd1 (A:=A.in1) K hh hok (Ay (DJ hn) ∅) λh1 tk acc hk hs1 ha=>?_);obtain⟨ns,hI,hR⟩:=hi acc ha;have hla:acc.toList.length=n:=by rw[BO];exact ha.1
 have hln:ns.length=n:=by have:acc.toList.length=ns.length:=Ew hI;lia
 refine AD (wpAny_newList ?_ (by rw[hla];exact Ay (DJ hn) ∅));have hoL:(h1.push (GV "list" acc.toList.toArray 0)).get? h1.objs.size=AA (GV "list" acc.toList.toArray 0):=Ai _ rfl;refine AD (CA (BX slot_list_sort ⟨_,hoL,rfl⟩ entry_list_sort (list_sort_tree hoL hI (by rw[hla];exact hn) λout ns' a1 a2 a3=>⟨_,rfl,?_⟩) (args_list_sort _)));obtain⟨e,he⟩:=sortedHeap_at (out:=out) hoL;refine AJ ⟨_,rfl,h _ tk _ out ns ns' e hR hln a1 a2 a3 (λb o hb=>?_) ?_ he⟩
 ·have hb1:=hk b o hb;have hlt:=Ar hb1;rw[sortedHeap_old (BE hlt) (by rw[Dp];exact Dy hlt),Heap.get?_push_ne _ _ _ (BE hlt)];exact hb1
 ·exact DJ hs1
theorem am4:∀{us:List AG}{ns:List Int},CL us ns->c0 (ns.map V.int) us
 |_,_,.nil=>.nil
 |_,_,.cons n t r=>.cons ⟨t,rfl⟩ (am4 r)
variable [Tbs]
theorem au3{K:AN}{H:Hp}:∀ns:List Int,IsDs K H (ns.map D.int) (ns.map V.int)
 |[]=>.nil
 |n::r=>.cons (.int n) (au3 r)
section
variable {X:Cx} {a b c:AR} {ta tb tc:DT} {pos:Pos}
def bk0:BK "set"=AA (.type "set"):=by decide+kernel
def bx9{p p2 pos2:Pos}(hc:X.calm=AB)(hg:Gl X "sorted")(hm:X.mg "sorted"=AC)(hg2:Gl X "set")(hm2:X.mg "set"=AC)(ha:PE X a (up X.K ta))(hs:∀e p,a≠.Starred e p):PE X (.Call (.Name "sorted" p) [.Call (.Name "set" p2) [a] [] pos2] [] pos) (up X.K λenv st Q=>ta env st λx st1=>Y7 x st1 Q):=by
 intro pins s σ H Q I q;obtain⟨env,st,Qd,hE,hS,ht,hq⟩:=q;have hst:Am [a] X.env=(AH,eval a X.env)::Am [] X.env:=by rw[k5 hs]
 refine Jn (A9 I hg hm boot_sorted (FH (Q:=_) (Cz ?_) rfl rfl));refine Jn (A9 I hg2 hm2 bk0 (BY ?_ hst rfl));rw[hst];refine Cz ?_;refine thn (ha pins s σ H (λv H1=>∃d st1,Ev st H st1 H1/\IsD X.K H1 d v/\RelS X.K st1 H1/\Y7 d st1 Qd) I ⟨env,st,_,hE,hS,ht,λv d H' st' ev is rs q=>⟨d,st',ev,is,rs,q⟩⟩) λu s1 hh=>?_;obtain⟨v,H1,I1,rv,d,st1,ev,is,rs,hr⟩:=hh;refine EK ?_;cases d<;>first|exact AT hr|skip
 obtain⟨ns,us,hrd,h4,h64,hr⟩:=hr;obtain⟨vs,hL,hD⟩:=rs.rd hrd;rw[is.ref_inv]at rv;cases rv;obtain⟨its,rvs,pl,hz⟩:=I1.list hL;have hv:vs=ns.map V.int:=by
  clear hL hr hrd rvs h4 hz
  induction ns generalizing vs with
  |nil=>exact hD.inv_nil
  |cons n ns ih=>
   obtain⟨v,ws,rfl,i1,i2⟩:=hD.inv_cons;cases i1;rw[ih _ i2];rfl
 subst hv;have hI:=bf9 rvs;refine bf5 (I1.ok.hd hc) pl.isList (by simpa using hI) h4 h64 λh1 tk es ep t ms S1 mm hk1=>?_;refine EK ?_;have hk1':∀b o,s1.heap.get? b=AA o->h1.get? b=AA o:=λb o e=>hk1 b o (Ar e) e;obtain⟨ws,pw,sl,G⟩:=bt6 (w:=X.w) (d:=s1.heap.objs.size) (ep:=ep) S1.s0;have hml:ms.length<64:=Di (ao6 S1.nd λx hx=>h4 x ((mm x).mp hx)) h64;refine bg5 (s:={s1 with heap:=h1,toks:=tk}) (R:=λks=>ks.Perm ms) (br1 G) (I1.ok.hd hc) ⟨S1.at_,S1.s0.fit,S1.s0.pl,S1.s0.ld⟩ (by rw[S1.size];exact hml) (λacc ha=>b70 pw S1.im (by rw[BO];exact ha)) λh' tk' l out ks ts e hR hlm a1 a2 a3 hk' hs' he=>?_;have hk2:∀b o,s1.heap.get? b=AA o->h'.get? b=AA o:=λb o z=>hk' b o (hk1' b o z);have hs2:s1.heap.objs.size<=l:=Ay (DJ (Ar S1.at_)) hs';have pp:=a2.trans hR;have tl:ts.length<64:=by rw[pp.length_eq];exact hml
 refine⟨.ref l,_,I1.laid (t':=tk') hk2 hs2 (show i7 X.prog X.w _ h' _ (.lst (ts.map V.int)) from⟨by rw[AX];exact DJ (Ab tl ∅),out.toList,e,am4 a1,?_⟩),rfl,?_⟩
 ·simpa[GV]using he
 ·exact(hq.after ev).newL rs (au3 ts) (λp hp=>hr ts p tl (λx=>(pp.mem_iff).trans (mm x)) hp) l (I1.hok.fresh hs2)
end
end Ek
namespace PySem
open PyProof.Rows
end PySem
namespace L2
open PySem PySem.Spec PyProof.Rows
end L2
namespace Ek
open PySem PySem.Spec PyProof.Rows L2
variable [Tbs]
end Ek
namespace PySem
end PySem
namespace Ek
open PySem PySem.Spec PyProof.Rows L2
variable [Tbs]
end Ek
namespace Ek
open PySem PySem.Spec PyProof.Rows L2
variable [Tbs]
variable{x:List BV}{H:Hp}{pos':Pos}
section
variable {X:Cx} {a b c:AR} {ta tb tc:DT} {pos p:Pos} {K:AN}
abbrev upG(K:AN)(t:Tg):TG:=λv σ H Q=>∃d env k,IsD K H d v/\RelE K H env σ/\B6 t d env k/\∀env' σ',RelE K H env' σ'->k env'->Q σ' H
def _root_.L2.PG.imp{X}{x}{t t'}(h:PG X x t)(i:∀v σ H Q,t' v σ H Q->t v σ H Q):PG X x t':=λpins s σ H v u Q I r q=>h pins s σ H v u Q I r (i v σ H Q q)
def b17{i}{x}(hN:X.N.Nodup)(hi:X.N[i]?=AA x)(hx:Loc X.env.scope x)(hf:X.fn x=AB\/X.env.scope.names.lookup x=AA .local):PG X (.Name x pos) (upG X.K (.n i)):=
 PG.imp (ax4 hN hi hx hf) λv σ H Q q=>by
  obtain⟨d,env,k,is,hE,ht,hq⟩:=q;exact hq _ _ (hE.set is i) ht
abbrev T2:List Nat->TGs
 |[]=>ba7
 |i::is=>a70 (ai1 i) (T2 is)
theorem a07{K}{Q}{k:c9->Prop}:∀is(ds)vs(env)σ,ds.length=is.length->IsDs K H ds vs->RelE K H env σ->k (F6 env is ds)->(∀env' σ',RelE K H env' σ'->k env'->Q σ' H)->T2 is vs σ H Q
 |[],[],vs,env,σ,_,r,hE,ht,hq=>⟨r.inv_nil,hq _ _ hE ht⟩
 |i::is,d::ds,vs,env,σ,hl,r,hE,ht,hq=>by
  obtain⟨v,ws,rfl,h1,h2⟩:=r.inv_cons;exact⟨v,ws,rfl,a07 is ds ws _ _ (by simpa using hl) h2 (hE.set h1 i) ht hq⟩
 |[],d::ds,vs,env,σ,hl,_,_,_,_=>by simp at hl
 |i::is,[],vs,env,σ,hl,_,_,_,_=>by simp at hl
def b65{es:List AR}{k0}{is:List Nat}(hc:X.calm=AB)(h:PGs X es (T2 is))(hn:(CC es X.env).length=is.length)(hst:(CC es X.env).findIdx? (·.1)=AC):PG X (.Tuple es k0 pos) (upG X.K (.tup is)):=
 PG.imp (b63 hc h hn hst) λv σ H Q q=>by
  obtain⟨d,env,k,i1,hE,⟨ds,rfl,hl,ht⟩,hq⟩:=q;obtain⟨q,vs,rfl,hsq,r⟩:=i1.tup_inv;exact⟨q,vs,rfl,hsq,r.len▸hl,a07 is ds vs env σ hl r hE ht hq⟩
structure EndsR(K:AN)(st:Sto)(H:Hp)(Fd:DEnds)(F:Ends):Prop where
 nx:∀env σ H' st',Ev st H st' H'->RelE K H' env σ->RelS K st' H'->Fd.nx env st'->F.nx σ H'
 bk:∀env σ H' st',Ev st H st' H'->RelE K H' env σ->RelS K st' H'->Fd.bk env st'->F.bk σ H'
 ct:∀env σ H' st',Ev st H st' H'->RelE K H' env σ->RelS K st' H'->Fd.ct env st'->F.ct σ H'
 rt:o3 K st H Fd.rt F.rt
theorem EndsR.after{st st1}{H1}{Fd}{F}(e:EndsR K st H Fd F)(ev:Ev st H st1 H1):EndsR K st1 H1 Fd F:=
 ⟨λenv σ H' st' ev'=>e.nx env σ H' st' (ev.trans ev'),λenv σ H' st' ev'=>e.bk env σ H' st' (ev.trans ev'),λenv σ H' st' ev'=>e.ct env σ H' st' (ev.trans ev'),e.rt.after ev⟩
abbrev upS(K:AN)(t:DS):TS:=λF σ H=>∃env st Fd,RelE K H env σ/\RelS K st H/\t Fd env st/\EndsR K st H Fd F
variable {t u:DS} {s1:BV} {d7:List BV}
def ce8:PSs X [] (upS X.K λF env st=>F.nx env st):=PSs.imp bx1 λF σ H⟨env,st,Fd,hE,hS,ht,hq⟩=>hq.nx env σ H st Ev.refl hE hS ht
def bv8(h1:PS X s1 (upS X.K t))(h2:PSs X d7 (upS X.K u)):PSs X (s1::d7) (upS X.K λF env st=>t {F with nx:=u F} env st):=
 PSs.imp (bl4 h1 h2) λF σ H⟨env,st,Fd,hE,hS,ht,hq⟩=>⟨env,st,{Fd with nx:=u Fd},hE,hS,ht,λenv' σ' H' st' ev hE' hS' q=>⟨env',st',Fd,hE',hS',q,hq.after ev⟩,hq.bk,hq.ct,hq.rt⟩
def ag2{i}{x}(hN:X.N.Nodup)(hi:X.N[i]?=AA x)(hx:Loc X.env.scope x)(ha:PE X a (up X.K ta))(hs:Ci a (AA (.Name x pos')) pos.line X.env=pure AH)(hf:X.fn x=AB\/X.env.scope.names.lookup x=AA .local):
  PS X (.Assign [.Name x pos'] a pos) (upS X.K λF env st=>ta env st λd st1=>F.nx (env.set i (AA d)) st1):=
 PS.imp (cf1 hN hi hx ha hs hf) λF σ H⟨env,st,Fd,hE,hS,ht,hq⟩=>⟨env,st,_,hE,hS,ht,λv d H' st' ev is=>hq.nx _ _ H' st' ev ((hE.mono (ev.tk hS)).set is i)⟩
def b76{o i v}{to ti tv}(hv:PE X v (up X.K tv))(ho:PE X o (up X.K to))(hi:PE X i (up X.K ti))
  (hsub:∀w,assign (.Subscript o i pos') X.env w=do
   let ov <-holding [w] (eval o X.env)
   let iv <-holding [w,ov] (eval i X.env)
   HS pos'
   holding [w,ov,iv] (Jl ov iv w)
   release [w,ov,iv] []) (hs:GP [.Subscript o i pos'] v pos.line X.env=pure AH) (hw:swappedStores [.Subscript o i pos'] v X.env=pure AC) :
  PS X (.Assign [.Subscript o i pos'] v pos) (upS X.K λF env st=>tv env st λd st1=>to env st1 λx st2=>ti env st2 λy st3=>∃a j k ds,x=.ref a/\y=.int j/\st3 a=AA (.lst ds)/\ixN ds.length j=AA k/\F.nx env (b7 st3 a (.lst (ds.set k d)))):=
 PS.imp (cc2 hv (ce0 ho hi bm8 hsub) hs hw rfl) λF σ H⟨env,st,Fd,hE,hS,ht,hq⟩=>⟨env,st,_,hE,hS,ht,λw d H1 st1 ev1 is1 rs1 q1=>
  ⟨env,st1,_,hE.mono (ev1.tk hS),rs1,q1,λov x H2 st2 ev2 is2 rs2 q2=>⟨env,st2,_,(hE.mono (ev1.tk hS)).mono (ev2.tk rs1),rs2,q2,λiv y H3 st3 ev3 is3 rs3 q3=>by
   obtain⟨q,j,k,ds,rfl,rfl,hr,hk,q3⟩:=q3;obtain⟨vs,hH,r⟩:=rs3.lst hr;have is1':=(is1.mono (ev2.tk rs1)).mono (ev3.tk rs2);exact ⟨q,vs,j,k,(is2.mono (ev3.tk rs2)).ref_inv,is3.int_inv,hH,by rw[<-r.len];exact hk,hq.nx env σ _ _ (((ev1.trans ev2).trans ev3).trans (Ev.put hr)) ((((hE.mono (ev1.tk hS)).mono (ev2.tk rs1)).mono (ev3.tk rs2)).mono (TK.put hH)) (rs3.putOld hH (r.set is1' k)) q3⟩⟩⟩⟩
def b20{o v}{to tv}{f}{C:Str->List Str}(hC:∀c Ca,BH X.K AO c=AA (AA (.ref Ca))->f∈C c->Cls X.K Ca/\x9 X.K Ca f)(hv:PE X v (up X.K tv))(ho:PE X o (up X.K to))(hs:Ci v (AA (.Attribute o f pos')) pos.line X.env=pure AH):
  PS X (.Assign [.Attribute o f pos'] v pos) (upS X.K λF env st=>tv env st λd st1=>to env st1 λx st2=>∃p c fs,x=.ref p/\st2 p=AA (.ins c fs)/\f∈C c/\fs.length<1000/\F.nx env (b7 st2 p (.ins c (g7 f d fs)))):=
 PS.imp (b77 ho hv hs) λF σ H q=>by
  obtain⟨env,st,Fd,hE,hS,ht,hq⟩:=q;refine⟨env,st,_,hE,hS,ht,λw d H1 st1 ev is rs q1=>?_⟩;refine⟨env,st1,_,hE.mono (ev.tk hS),rs,q1,λy x H2 st2 ev2 is2 rs2 q2=>?_⟩;obtain⟨p,c,fs,rfl,hs2,hf,hl,hn⟩:=q2;obtain⟨Ca,dx,vs,hH,hns,r⟩:=rs2.ins hs2;obtain⟨c1,c2⟩:=hC c Ca hns hf;have is1:=is.mono (ev2.tk rs);have tk:=TK.putI (K:=X.K) (o:=.ins Ca dx (p7 f w vs)) hH;refine⟨p,Ca,dx,vs,is2.ref_inv,hH,c1,c2,r.length▸hl,?_⟩;refine hq.nx env σ _ _ ((ev.trans ev2).trans (Ev.put hs2)) (((hE.mono (ev.tk hS)).mono (ev2.tk rs)).mono tk) (rs2.putAny (ob:=.ins c (g7 f d fs)) tk ⟨Ca,dx,_,n0,hns,(r.put is1 f).mono tk⟩ (by grind)) hn
def cn8(ha:PE X a (up X.K ta))(hs:Ci a AC pos.line X.env=pure AH):PS X (.Expr a pos) (upS X.K λF env st=>ta env st λ_ st1=>F.nx env st1):=
 PS.imp (bv2 ha hs) λF σ H⟨env,st,Fd,hE,hS,ht,hq⟩=>⟨env,st,_,hE,hS,ht,λv d H' st' ev is=>hq.nx _ _ H' st' ev (hE.mono (ev.tk hS))⟩
def b36(ha:PE X a (up X.K ta)):PS X (.Return (AA a) pos) (upS X.K λF env st=>ta env st F.rt):=
 PS.imp (b97 ha) λF σ H⟨env,st,Fd,hE,hS,ht,hq⟩=>⟨env,st,_,hE,hS,ht,hq.rt⟩
def bw1:PS X (.Return AC pos) (upS X.K λF _ st=>F.rt .non st):=PS.imp bu4 λF σ H⟨env,st,Fd,hE,hS,ht,hq⟩=>hq.rt.here .non hS ht
def b13:PS X (.Pass pos) (upS X.K λF env st=>F.nx env st):=PS.imp bx8 λF σ H⟨env,st,Fd,hE,hS,ht,hq⟩=>hq.nx env σ H st Ev.refl hE hS ht
def cs0{tc}{y}(hc:PT X c (upB X.K tc))(h1:PSs X x (upS X.K t))(h2:PSs X y (upS X.K u)):PS X (.If c x y pos) (upS X.K λF env st=>tc env st λk st1=>if k=AB then t F env st1 else u F env st1):=
 PS.imp (cp4 hc h1 h2) λF σ H⟨env,st,Fd,hE,hS,ht,hq⟩=>⟨env,st,_,hE,hS,ht,λk H' st' ev rs q=>by
  cases k with
  |true=>exact⟨env,st',Fd,hE.mono (ev.tk hS),rs,q,hq.after ev⟩
  |false=>exact⟨env,st',Fd,hE.mono (ev.tk hS),rs,q,hq.after ev⟩⟩
def bq1{tc}(hp:HB (model X.prog X.w) X.A X.env X.xe)(hc:PT X c (upB X.K tc))(h1:PSs X x (upS X.K t)):PS X (.While c x [] pos) (upS X.K λF env st=>∃n,k6 tc t F n env st):=
 PS.imp (bl2 hp hc h1) λF σ H⟨env,st,Fd,hE,hS,⟨n,ht⟩,hq⟩=>by
  refine⟨λm σ' H'=>∃env' st',RelE X.K H' env' σ'/\RelS X.K st' H'/\Ev st H st' H'/\k6 tc t Fd m env' st',⟨n,env,st,hE,hS,Ev.refl,ht⟩,?_⟩;rintro m σ1 H1 ⟨env1,st1,hE1,hS1,ev1,w1⟩;cases m with
  |zero=>exact w1.elim
  |succ m=>
   refine⟨env1,st1,_,hE1,hS1,w1,λk H2 st2 ev2 rs2 q2=>?_⟩;cases k with
   |false=>
    exact hq.nx env1 σ1 H2 st2 (ev1.trans ev2) (hE1.mono (ev2.tk hS1)) rs2 q2
   |true=>
    refine⟨λσ' H'=>∃env' st',RelE X.K H' env' σ'/\RelS X.K st' H'/\Ev st H st' H'/\k6 tc t Fd m env' st',λσ' H' h=>⟨m,Cy _,h⟩,?_⟩;have hq2:=hq.after (ev1.trans ev2);have ev12:=ev1.trans ev2;exact⟨env1,st2,_,hE1.mono (ev2.tk hS1),rs2,q2,λenv' σ' H' st' ev hE' hS' q=>⟨env',st',hE',hS',ev12.trans ev,q⟩,hq2.nx,λenv' σ' H' st' ev hE' hS' q=>⟨env',st',hE',hS',ev12.trans ev,q⟩,hq2.rt⟩
def b57{tg iter}{ti}{g}(hp:HB (model X.prog X.w) X.A X.env X.xe)(hc:X.calm=AB)(hi:PI X tg iter (upI X.K ti))(hg:PG X tg (upG X.K g))(h1:PSs X x (upS X.K t))(hs:∀v,Dc iter X.env v=pure v):
  PS X (.For tg iter x [] pos) (upS X.K λF env st=>ti env st λitems chk st1=>p0 chk g t F items env st1):=
 PS.imp (b92 hp hc hi hg h1 hs) λF σ H⟨env,st,Fd,hE,hS,ht,hq⟩=>by
  refine⟨env,st,_,hE,hS,ht,λitems chk st1 H1 J ev1 rs1 ok q1=>?_⟩;refine⟨λi m σ' H'=>m=items.length-i/\i<=items.length/\∃env' st',RelE X.K H' env' σ'/\RelS X.K st' H'/\Ev st H st' H'/\TK X.K H1 H'/\p0 chk g t Fd (items.drop i) env' st',⟨items.length,∎,Ao _,env,st1,hE.mono (ev1.tk hS),rs1,ev1,TK.refl,q1⟩,?_⟩;rintro i m σ2 H2 ⟨rfl,hi,env2,st2,hE2,hS2,ev2,tk2,w2⟩
  by_cases hlt:i<items.length
  ·right
   rw[Cu hlt]at w2;obtain⟨hchk,w2⟩:=w2;refine⟨ok.go i st2 H2 tk2 hS2 hchk hlt,λσ' H'=>i+1<=items.length/\∃env' st',RelE X.K H' env' σ'/\RelS X.K st' H'/\Ev st H st' H'/\TK X.K H1 H'/\p0 chk g t Fd (items.drop (i+1)) env' st',λσ' H' h=>⟨items.length-(i+1),⋯,rfl,h⟩,λv H3 y=>?_⟩;obtain⟨d,hd,is3,ev3,rs3⟩:=ok.yld i st2 H2 v H3 tk2 hS2 hchk hlt y;have ed:d=items[i]:=by simp_all
   subst ed;refine⟨_,env2,_,is3,hE2.mono (ev3.tk hS2),w2,λenv4 σ4 hE4 q4=>?_⟩;have ev23:=ev2.trans ev3;have hq4:=hq.after ev23;have tk3:=tk2.trans (ev3.tk hS2);exact⟨env4,st2,_,hE4,rs3,q4,λenv' σ' H' st' ev hE' hS' q=>⟨hlt,env',st',hE',hS',ev23.trans ev,tk3.trans (ev.tk rs3),q⟩,hq4.nx,λenv' σ' H' st' ev hE' hS' q=>⟨hlt,env',st',hE',hS',ev23.trans ev,tk3.trans (ev.tk rs3),q⟩,hq4.rt⟩
  ·left
   have e:i=items.length:=by lia
   subst e;rw[Iw]at w2;exact⟨ok.stop st2 H2 tk2 hS2 w2.1,hq.nx env2 σ2 H2 st2 ev2 hE2 hS2 w2.2⟩
def bm7{env}{σ}{fr}{k}(r:RelE K H env σ):RelE K H (E9 fr k env) (y6 fr k σ):=by
 refine⟨by simp[E9,y6],λi d h=>?_⟩;unfold E9 at h;unfold y6
 by_cases hi:i<fr.length
 ·rw[Aj (by simp_all),Aw]at h ⊢;rw[AM hi]at h ⊢;simp only[Eg,Ct]at h ⊢;cases q:env[fr[i]]? with
  |none=>simp_all
  |some o=>
   rw[q]at h;have h':=h;subst h';obtain⟨v,hv,is⟩:=r.at' _ d q;exact⟨v,by rw[hv];rfl,is⟩
 ·rw[Ad (by simp_all),DU]at h
  split at h<;>cases h
def ap2{ti:c9->Sto->ItK->Prop}{g:Tg}{tc:DB}{fr:List Nat}{k:Nat}{σ:L2.St}{Q:VK}
  (h:up K (λenv st Q=>ti env st λitems chk st1=>items.length<=1000000/\t0 chk g tc ta (λacc st'=>∀p,st' p=AC->Q (.ref p) (b7 st' p (.lst acc))) items [] (E9 fr k env) st1) σ H Q) :
  ah0 fr k (upI K ti) (upG K g) (upB K tc) (up K ta) Q σ H:=by
 obtain⟨env,st,Qd,hE,hS,ht,hq⟩:=h;refine⟨env,st,_,hE,hS,ht,λitems chk st1 H1 J ev1 rs1 ok q1 p hp=>?_⟩;obtain⟨hlen,q1⟩:=q1;have hEc:RelE K H1 env σ:=hE.mono (ev1.tk hS);refine⟨λi m σ' H'=>m=items.length-i/\i<=items.length/\∃env' st' acc ys,RelE K H' env' σ'/\RelS K st' H'/\st' p=AC/\H' p=AA (.lst ys)/\IsDs K H' acc ys/\acc.length<=i/\TK K H1 H'/\(∀a o,H a=AA o->st a=AC->a≠p/\(∃o',H' a=AA o'/\TbE o o')/\st' a=AC) /\
  t0 chk g tc ta (λacc st'=>∀p,st' p=AC->Qd (.ref p) (b7 st' p (.lst acc))) (items.drop i) acc env' st',⟨items.length,∎,Ao _,E9 fr k env,st1,[],[],(bm7 hEc).mono (TK.new hp),rs1.new hp,rs1.free hp,n0,.nil,Ao _,TK.new hp,λa o h1 h2=>?_,q1⟩,?_⟩
 ·obtain⟨⟨o',x,t⟩,y⟩:=ev1 a o h1 h2;have ne:a≠p:=o6 x hp;exact⟨ne,⟨o',by rw[e8 ne];exact x,t⟩,y⟩
 rintro i m σ2 H2 ⟨rfl,hi,env2,st2,acc,ys,hE2,hS2,sp2,hp2,ra,hal,tk2,old,w2⟩
 by_cases hlt:i<items.length
 ·right
  rw[Cu hlt]at w2;obtain⟨hchk,w2⟩:=w2;refine⟨ok.go i st2 H2 tk2 hS2 hchk hlt,λσ' H'=>i+1<=items.length/\∃env' st' acc ys,RelE K H' env' σ'/\RelS K st' H'/\st' p=AC/\H' p=AA (.lst ys)/\IsDs K H' acc ys/\acc.length<=i+1/\TK K H1 H'/\(∀a o,H a=AA o->st a=AC->a≠p/\(∃o',H' a=AA o'/\TbE o o')/\st' a=AC) /\
   t0 chk g tc ta (λacc st'=>∀p,st' p=AC->Qd (.ref p) (b7 st' p (.lst acc))) (items.drop (i+1)) acc env' st',λσ' H' h=>⟨items.length-(i+1),⋯,rfl,h⟩,λv H3 y=>?_⟩
  obtain⟨d,hd,is3,ev3,rs3⟩:=ok.yld i st2 H2 v H3 tk2 hS2 hchk hlt y;have ed:d=items[i]:=by rw[AM hlt]at hd;exact(Ag hd).symm
  subst ed;refine⟨_,env2,_,is3,hE2.mono (ev3.tk hS2),w2,λenv4 σ4 hE4 q4=>?_⟩;have old3:∀{H':Hp}{st':Sto},Ev st2 H2 st' H'->∀a o,H a=AA o->st a=AC->a≠p/\(∃o',H' a=AA o'/\TbE o o')/\st' a=AC:=λev a o h1 h2=>by
   obtain⟨x,⟨o1,y,t1⟩,z⟩:=old a o h1 h2;obtain⟨⟨o2,y',t2⟩,z'⟩:=ev a o1 y z;exact⟨x,⟨o2,y',t1.trans t2⟩,z'⟩
  refine⟨env4,st2,_,hE4,rs3,q4,λbb H5 st5 ev5 rs5 q5=>?_⟩;have ev25:Ev st2 H2 st5 H5:=ev3.trans ev5;have tk25:TK K H2 H5:=ev25.tk hS2;obtain⟨hp5,sp5⟩:=ev25.get hp2 sp2 (λ_=>nofun);cases bb with
  |false=>
   simp only[BD,if_false]at q5 ⊢;exact⟨hlt,env4,st5,acc,ys,hE4.mono (ev5.tk rs3),rs5,sp5,hp5,ra.mono tk25,⋯,tk2.trans tk25,old3 ev25,q5⟩
  |true=>
   refine⟨env4,st5,_,hE4.mono (ev5.tk rs3),rs5,q5,λw e H6 st6 ev6 is6 rs6 q6=>?_⟩;have ev26:Ev st2 H2 st6 H6:=ev25.trans ev6;have tk26:TK K H2 H6:=ev26.tk hS2;obtain⟨hp6,sp6⟩:=ev26.get hp2 sp2 (λ_=>nofun);have ra6:=ra.mono tk26;have hsz:ys.length<sizeLine:=by
    rw[<-ra6.len];have:(1000001:Nat)<=sizeLine:=by decide
    lia
   refine⟨ys,hp6,hsz,hlt,env4,st6,acc++[e],ys++[w],(hE4.mono ((ev5.trans ev6).tk rs3)).mono (TK.put hp6),rs6.stay (TK.put hp6) (λa o h1=>e8 λz=>by rw[z,sp6]at h1;cases h1) (af8 (by rw[hp6];exact λ_ z=>by cases z)),sp6,n0,(ra6.append (.cons is6 .nil)).mono (TK.put hp6),by simp;lia,(tk2.trans tk26).trans (TK.put hp6),λa o h1 h2=>?_,q6⟩;obtain⟨x,⟨o',y,t⟩,z⟩:=old3 ev26 a o h1 h2;exact⟨x,⟨o',by rw[e8 x];exact y,t⟩,z⟩
 ·left
  have e:i=items.length:=by lia
  subst e;rw[Iw]at w2;refine⟨ok.stop st2 H2 tk2 hS2 w2.1,hq _ (.ref p) H2 (b7 st2 p (.lst acc)) (λa o h1 h2=>?_) (.ref p) ⟨λa o h1=>?_,hS2.tb⟩ (w2.2 p sp2)⟩
  ·obtain⟨x,y,z⟩:=old a o h1 h2;exact⟨y,by rw[i9 x];exact z⟩
  ·by_cases ha:a=p
   ·subst ha;rw[b8]at h1;cases h1;exact⟨ys,hp2,ra⟩
   ·rw[i9 ha]at h1;exact hS2.ob a o h1
end
end Ek
namespace Ek
open PySem PySem.Spec PyProof.Rows L2
variable [Tbs]
end Ek
namespace HT
open PySem PySem.Spec PyProof.Rows
end HT
namespace L2
open PySem PySem.Spec PyProof.Rows
end L2
namespace Ek
open PySem PySem.Spec PyProof.Rows L2
variable [Tbs]
end Ek
namespace Ek
open PySem PySem.Spec PyProof.Rows L2
variable [Tbs]
section
variable {X:Cx} {a b c:AR} {ta tb tc:DT} {pos apos p:Pos}
structure IscOk(K:AN)(c:Str)(Ca:AI):Prop where
 at_:BH K AO c=AA (AA (.ref Ca))
 cl:Cls K Ca
 ha:BL K (.ref Ca) "__class__"=AA (AA (.builtin "object.__class__"))
 hn:W.specialIn K (.builtin "object.__class__") "__get__"=AA (AA (.builtin "getset_descriptor.__get__"))
 htk:W.takesIn K (.builtin "object.__class__")=AA AB
 hm:W.mroIn K Ca (.type "object")=AA AB
 no:Dq K (.type "tuple") (.ref Ca)=AA AH
 yes:Dq K (.ref Ca) (.ref Ca)=AA AB
end
end Ek
namespace Ek
open PySem PySem.Spec PyProof.Rows L2
variable [Tbs]
variable{H:Hp}
theorem aq0:∀{bs:List Bool}{its:List AG},c0 (bs.map V.bl) its->∀(i:Nat)v,its[i]?=AA v->∃b,bs[i]?=AA b/\v=.bool b
 |[],its,r,i,v,h=>by cases r;simp at h
 |b::bs,its,r,i,v,h=>by
  cases r with
  |cons r1 r2=>
   cases i with
   |zero=>simp at h;subst h;exact⟨b,rfl,r1⟩
   |succ i=>exact aq0 r2 i v (by simpa using h)
section
variable {X:Cx} {a o i v:AR} {ta to ti tv:DT} {p pos pos':Pos}
def bk3(hc:X.calm=AB):z7 X (.builtin "any") (λxs H Q=>∃(p:AI)(bs:List Bool),xs=[.ref p]/\SqL X.K H p (bs.map V.bl)/\Q (.bl (bs.any id)) H):=by
 intro pins s σ H xs us Q I r h;obtain⟨p,bs,rfl,hq,q⟩:=h;obtain⟨u,rfl,ru⟩:=r.one;cases ru;obtain⟨its,rv,pl,hz⟩:=I.list hq;have hl:=pl.isList;have hsz:its.length=bs.length:=by rw[<-rv.length,AX]
 have hp:p<s.heap.objs.size:=by obtain⟨_,e,_⟩:=hl;exact Ar e
 refine call_any_walk (Gj hl ⟨s.heap.objs.size,[s.heap.objs.size,p],[s.heap.objs.size],its.toArray.size,_,_,λi=>(bs[i]?).getD AH,rfl,KW (A:=X.A.in1) (I.ok.hd hc) _ p (BE hp) its.toArray,⟨⟨_,Ai _ rfl,rfl,rfl⟩,hl.push _⟩,?_,?_⟩)
 ·intro i v s' Q' E' hP hQ;obtain⟨b,e,rfl⟩:=aq0 rv i v (by simpa using hP);have hQ:Q' ((bs[i]?).getD AH) s':=hQ;rw[e]at hQ;exact CK hQ
 ·intro h' tk hk;rw[Aa,hsz,LSm.range_any bs];exact⟨.bl (bs.any id),H,I.kept (LSm.kept_iter hk),rfl,q⟩
def bn4:BK "any"=AA (.builtin "any"):=by decide+kernel
theorem IsDs.bools{K:AN}:∀{bs:List Bool}{vs:List V},IsDs K H (bs.map D.bl) vs->vs=bs.map V.bl
 |[],vs,r=>r.inv_nil
 |b::bs,vs,r=>by
  obtain⟨v,ws,rfl,i1,i2⟩:=IsDs.inv_cons (by simpa using r);rw[i1.bl_inv,IsDs.bools i2];rfl
def cd5(hc:X.calm=AB)(hg:Gl X "any")(hm:X.mg "any"=AC)(ha:PE X a (up X.K ta))(hs:∀e p,a≠.Starred e p):PE X (.Call (.Name "any" p) [a] [] pos) (up X.K λenv st Q=>ta env st λx st1=>aj6 x st1 Q):=
 a86 (bk3 hc) hg hm bn4 ha hs (λv d H' st' Qd Q is rs ht hq=>by
  cases d<;>first|exact AT ht|skip
  obtain⟨bs,hr,ht⟩:=ht;obtain⟨vs,hs,r⟩:=rs.rd hr;exact⟨_,bs,by rw[is.ref_inv],by rw[<-r.bools];exact hs,hq.here (.bl _) rs ht⟩) ∅ ∅
def ce4:PE X (.Dict [] [] pos) (up X.K λenv st Q=>∀p,st p=AC->Q (.ref p) (b7 st p (.dct []))):=
 PE.imp bo1 λσ H Q q=>by
  obtain⟨env,st,Qd,hE,hS,ht,hq⟩:=q;exact λp hp=>hq _ (.ref p) _ (b7 st p (.dct [])) (Ev.newS hp) (.ref p) (hS.putNewD hp ⟨rfl,.nil⟩) (ht p (hS.free hp))
def IsKs.snoc{K:AN}{kvs:List (Key×D)}{vs:List (Key×V)}{d:D}{v:V}(h:IsKs K H kvs vs)(i:IsD K H d v)(k:Key):IsKs K H (kvs++[(k,d)]) (vs++[(k,v)]):=
 ⟨by simp[h.ks],by simpa using h.ds.append (.cons i .nil)⟩
def TK.putKd{K:AN}{p:AI}{u:HO}{xs:List (Key×V)}(h:H p=AA (.dK xs)):TK K H (upd H p u):=TK.upd' (by rw[h];exact λ_ z=>by cases z) (by rw[h];exact λ_ _ z=>by cases z)
def bz3(hu:X.A.units+2200<Cm)(hv:PE X v (up X.K tv))(ho:PE X o (up X.K to))(hi:PE X i (up X.K ti))(hs:Ci v (AA (.Subscript o i pos')) pos.line X.env=pure AH):
  PS X (.Assign [.Subscript o i pos'] v pos) (upS X.K λF env st=>tv env st λd st1=>to env st1 λx st2=>ti env st2 λy st3=>ai7 x y d st3 λst4=>F.nx env st4):=
 PS.imp (b16 ⋯ ho hi hv hs) λF σ H⟨env,st,Fd,hE,hS,ht,hq⟩=>⟨env,st,_,hE,hS,ht,λw d H1 st1 ev1 is1 rs1 q1=>
  ⟨env,st1,_,hE.mono (ev1.tk hS),rs1,q1,λov x H2 st2 ev2 is2 rs2 q2=>⟨env,st2,_,(hE.mono (ev1.tk hS)).mono (ev2.tk rs1),rs2,q2,λiv y H3 st3 ev3 is3 rs3 q3=>by
   cases x<;>cases y<;>first|exact q3.elim|skip
   rename_i p j;obtain⟨kvs,hp,hk,hl,q3⟩:=q3;obtain⟨vs,hH,r⟩:=rs3.dct hp;have hvn:p4 vs (.inl j)=AC:=by
    rcases r.look (.inl j)with⟨_,l2⟩|⟨_,_,l1,_⟩
    ·exact l2
    ·rw[hk]at l1;cases l1
   have is1':=(is1.mono (ev2.tk rs1)).mono (ev3.tk rs2);have hlen:kvs.length=vs.length:=by simpa using congrArg Dl r.ks
   have g:N8 H3 p iv w (upd H3 p (.dK (vs++[(.inl j,w)]))):=by
    rw[is3.int_inv,<-bk6 w hvn];exact N8.k (k:=.inl j) hH (by rw[<-hlen];exact hl)
   refine⟨_,_,(is2.mono (ev3.tk rs2)).ref_inv,g,?_⟩;exact hq.nx env σ _ _ (((ev1.trans ev2).trans ev3).trans (Ev.put hp)) ((((hE.mono (ev1.tk hS)).mono (ev2.tk rs1)).mono (ev3.tk rs2)).mono (TK.putKd hH)) (rs3.putAny (ob:=.dct (kvs++[(.inl j,d)])) (TK.putKd hH) ⟨_,n0,(r.snoc is1' _).mono (TK.putKd hH)⟩ (by rw[hH];exact λ_ z=>by cases z)) q3⟩⟩⟩
end
end Ek
namespace PySem
end PySem
namespace Ek
open PySem PySem.Spec PyProof.Rows L2
variable [Tbs]
end Ek
namespace Ek
open PySem PySem.Spec PyProof.Rows L2
variable [Tbs]
end Ek
namespace Ek
open PySem PySem.Spec PyProof.Rows L2
variable [Tbs]
@[reducible]noncomputable def Fz:HO:=.ext λ_=>True
def ah7:∀vs,Fz≠.lst vs:=λ_=>nofun
def X8{P}{w}{H}{h}{a}{o}(e:h.get? a=AA o):i7 P w H h a (.frz o Fz):=⟨e,trivial,⟨o,e⟩,λ_ _ _ _=>trivial⟩
section
variable {X:Cx} {pins:List (AI×Obj)} {σ:L2.St} {H H':Hp} {s:AL}
def bf6{x:Str}{c:AI}{o:Obj}{v:Option AG}(I:L2.Inv X pins σ H s)(hl:X.env.cells.lookup x=AA c)(hfn:X.fn x=AH)(hab:X.s₀.heap.objs.size<=c)(hn:H c=AC)(ho:s.heap.get? c=AA o)(hd:o.data=.cell v):
  L2.Inv X pins σ (upd H c (.frz o Fz)) s:=by
 have nn:∀{b:AI}{u:HO},H b=AA u->b≠c:=λe=>o6 e hn;refine⟨I.ok,I.os,I.bare,⟨I.base.keep,I.base.slot,λb ob e n hx=>?_,I.base.there,λb xs e=>?_,λb ob u e=>?_,λb ps e=>?_⟩,I.loc,I.cell,?_,λx' c' e=>?_,λp hp=>?_,λb u e=>?_,I.len⟩
 ·rw[e8 (BE (Ab (Ar e) hab))];exact I.base.free b ob e n hx
 ·have:=I.base.tups b xs e;rw[e8 (nn this)];exact this
 ·have:=I.base.frzs b ob u e;rw[e8 (nn this)];exact this
 ·obtain⟨m,q⟩:=I.base.tbls b ps e;exact⟨m,by rw[e8 (nn q)];exact q⟩
 ·rw[e8 (DF (I.cne x c hl))];exact I.free
 ·by_cases hc:c'=c
  ·subst hc;have:=I.ok.inj x' x c' e hl;subst this;exact .inr ⟨hfn,o,Fz,n0⟩
  ·rw[e8 hc];exact I.freeC x' c' e
 ·obtain⟨e,n,ne,nf,d⟩:=I.pin p hp;refine⟨e,?_,ne,nf,d⟩;rw[e8 λz=>?_]
  ·exact n
  ·rw[z,ho]at e;exact d v (by rw[<-Ag e];exact hd)
 ·by_cases hb:b=c
  ·subst hb;rw[n0]at e;cases e;exact X8 ho
  ·rw[e8 hb]at e;exact(I.hok b u e).stay (λ_ _ _ q=>q) (λa r=>by rw[e8 (nn r)];exact r) λa xs r=>by rw[e8 (nn r)];exact r
def av2{K}(e:v6 H H'):TK K H H':=⟨⟨λa xs q=>by
 rcases q with(q|⟨o',q⟩)|q
 ·exact .inl (.inl (e _ _ q))
 ·exact .inl (.inr ⟨o',e _ _ q⟩)
 ·exact .inr q,λa xs=>e _ _⟩,λa o u q _=>e _ _ q⟩
def au2{K:AN}{a:AI}{o:Ob}(z:ObR K H a o):∃u,H a=AA u/\∀ps,u≠.tbl ps:=by
 cases o with
 |lst ds=>obtain⟨vs,w1,_⟩:=z;exact⟨_,w1,λ_=>nofun⟩
 |fro ds=>
  obtain⟨vs,w1|⟨u,w1⟩,_⟩:=z
  ·exact⟨_,w1,λ_=>nofun⟩
  ·exact⟨_,w1,λ_=>nofun⟩
 |dct kvs=>obtain⟨vs,w1,_⟩:=z;exact⟨_,w1,λ_=>nofun⟩
 |dtt kvs=>obtain⟨vs,w1,_⟩:=z;exact⟨_,w1,λ_=>nofun⟩
 |ins c fs=>obtain⟨C,dx,vs,w1,_⟩:=z;exact⟨_,w1,λ_=>nofun⟩
def bm3{K}{st}(r:RelS K st H)(e:v6 H H'):=r.stay (av2 e) λa o h=>by
 obtain⟨u,hu,_⟩:=au2 (r.ob a o h);rw[hu,e _ _ hu] λa ps=>e _ _
def bt9{st}(e:v6 H H'):Ev st H st H':=λa o h k=>⟨⟨o,e _ _ h,.inl rfl⟩,k⟩
theorem an1(I:L2.Inv X pins σ H s):∀(xs:List Str),(∀x∈xs,X.fn x=AH/\X.ow x=AB/\∃c,X.env.cells.lookup x=AA c) ->
  ∃H',L2.Inv X pins σ H' s/\v6 H H'/\∀x∈xs,∃c o u,X.env.cells.lookup x=AA c/\H' c=AA (.frz o u)/\(∀vs,u≠.lst vs)/\s.heap.get? c=AA o
 |[],_=>⟨H,I,v6.refl H,λx h=>absurd h Ba⟩
 |x::xs,h=>by
  obtain⟨H1,I1,e1,f1⟩:=an1 I xs λy hy=>h y (BA _ hy);obtain⟨hfn,how,c,hc⟩:=h x Bl;obtain⟨v,o,ho,hd⟩:=I1.cell x c hc
  rcases I1.freeC x c hc with hn|⟨_,o',u,hz⟩
  ·have I2:=bf6 I1 hc hfn (I1.ok.cab x c (.inr how) hc) hn ho hd;have e2:v6 H1 (upd H1 c (.frz o Fz)):=λb u q=>by rw[e8 (o6 q hn)];exact q
   refine⟨_,I2,e1.trans e2,λy hy=>?_⟩
   rcases Ae.mp hy with rfl|hy
   ·exact⟨c,o,Fz,hc,n0,ah7,ho⟩
   ·obtain⟨c',o',u',a1,a2,a3,a4⟩:=f1 y hy;exact⟨c',o',u',a1,e2 _ _ a2,a3,a4⟩
  ·refine⟨H1,I1,e1,λy hy=>?_⟩
   rcases Ae.mp hy with rfl|hy
   ·obtain⟨z1,z2⟩:=I1.hok c _ hz;refine⟨c,o',u,hc,hz,λvs w=>?_,z1⟩;subst w;obtain⟨_,its,n,_,z3⟩:=z2;rw[ho]at z3;cases z3;cases hd
   ·exact f1 y hy
end
def am0{l}(h:ET l):l=[]\/∃i s j t v r,l=.int i s::.int j t::v::r/\ET r:=by
 unfold ET at h
 split at h
 ·exact .inl rfl
 ·exact .inr ⟨_,_,_,_,_,_,rfl,h⟩
 ·exact h.elim
theorem al7{a b}{s t}{c}:∀(n:Nat)l,l.length<=n->ET l->ET (l++[.int a s,.int b t,c])
 |0,l,hn,_=>by
  have:l=[]:=Bs ⋯;subst this;exact trivial
 |n+1,l,hn,h=>by
  rcases am0 h with rfl|⟨i,s',j,t',v,r,rfl,hr⟩
  ·exact trivial
  ·simp only[AS]at hn;exact(al7 n r ⋯ hr)
theorem an5{pos:Pos}{cv:AG}{a b:Int}{s t:Tok}{c:AG}:∀(n:Nat)(l:List AG),l.length<=n->ET l->Fy pos (l++[.int a s,.int b t,c])=AA cv->Fy pos l=AA cv\/cv=c
 |n,l,hn,h,q=>by
  rcases am0 h with rfl|⟨i,s',j,t',v,r,rfl,hr⟩
  ·have h':(if a==pos.line&&b==pos.col then AA c else AC)=AA cv:=q
   split at h'
   ·simp_all
   ·cases h'
  ·cases n with
   |zero=>simp at hn
   |succ n=>
    simp only[AS]at hn;have q':(if i==pos.line&&j==pos.col then AA v else Fy pos (r++[.int a s,.int b t,c]))=AA cv:=q;show(if i==pos.line&&j==pos.col then AA v else Fy pos r)=AA cv\/cv=c
    split at q'
    ·rename_i hc;rw[if_pos hc];exact .inl q'
    ·rename_i hc;rw[if_neg hc];exact an5 n r ⋯ hr q'
end Ek
namespace Ek
open PySem PySem.Spec PyProof.Rows L2
variable [Tbs]
abbrev A2(name qual:Str)(params:DD)(fb:Dj)(scope:BB)(cl:List (Str×AI))(doc pm cv ct:AG):Bi:=
 {name,qualname:=qual,params,body:=fb,scope,globals:=AO,closure:=cl,defaults:=.none,kwdefaults:=.none,doc:=doc,pyModule:=pm,annotations:=AC,code:=cv,closureTuple:=ct,builtins:=Cq}
abbrev E1(fd:Bi):Obj:={cls:=.type "function",data:=.func fd}
abbrev N5(mg:Str->Option AG)(h:Heap):Prop:=∃bm ob,mg "__builtins__"=AA (.ref bm)/\bm≠Cq/\h.get? bm=AA ob/\ob.cls=.type "module"/\ob.dict=AA Cq/\ob.data=.plain
structure LamOk(X:Cx):Prop where
 tab:∃c P,X.env.code=.ref c/\W.CodeHd X.base c P/\P∈Tbs.ps
 bm:N5 X.mg X.base
section
variable {X:Cx} {pins:List (AI×Obj)} {σ:L2.St} {H:Hp} {s:AL} {st:Sto}
structure Made(X:Cx)(pins:List (AI×Obj))(σ:L2.St)(H:Hp)(st:Sto)(f:AI)(fd:Bi)(H':Hp)(s':AL):Prop where
 inv:L2.Inv X pins σ H' s'
 tk:TK X.K H H'
 ev:Ev st H st H'
 rs:RelS X.K st H'
 fn:H' f=AA (.frz (E1 fd) Fz)
 cd:D7 H' fd.code
def ap8{fd}{h':Heap}{tk}(I:L2.Inv X pins σ H s)(rs:RelS X.K st H)(hk:∀b o,s.heap.get? b=AA o->h'.get? b=AA o)(hsz:s.heap.objs.size<=h'.objs.size)(cd:D7 H fd.code):
  Made X pins σ H st h'.objs.size fd (upd H h'.objs.size (.frz (E1 fd) Fz)) {s with heap:=h'.push (E1 fd),toks:=tk}:=by
 have hn:=I.hok.fresh hsz;exact⟨I.laid (λb o e=>AQ _ (hk b o e)) hsz (X8 (Ai _ rfl)),TK.new hn,Ev.new hn,rs.new hn,n0,cd.mono (K:=X.K) (TK.new hn)⟩
def ar3{P c':AI}{ps:Array AG}{fd:Bi}{h':Heap}{tk:Nat}{i j:Int}{t1 t2:Tok}{q:Str}(I:L2.Inv X pins σ H s)(rs:RelS X.K st H)(hP:H P=AA (.tbl ps))(hT:TabOk H ps)
  (hx:Heap.ExtBut P s.heap h') (hc:s.heap.objs.size<=c') (hlt:c'<h'.objs.size) (hr:h'.CodeRec (.ref c') q) (ht:h'.get? P=AA (HQ (ps++#[.int i t1,.int j t2,.ref c']))) (hcd:fd.code=.ref c') :
  ∃H',Made X pins σ H st h'.objs.size fd H' {s with heap:=h'.push (E1 fd),toks:=tk}:=by
 obtain⟨c2,oc,vs,t,e2,hoc,hd,hv⟩:=hr;cases e2;have hPs:s.heap.get? P=AA (HQ ps):=I.hok P _ hP;have hsz:s.heap.objs.size<=h'.objs.size:=DJ (Di hc hlt);have n1:H c'=AC:=I.hok.fresh hc;have n2:H h'.objs.size=AC:=I.hok.fresh hsz;have cf:c'≠h'.objs.size:=BE hlt;have cP:P≠c':=λz=>by rw[z,n1]at hP;cases hP
 have fP:P≠h'.objs.size:=λz=>by rw[z,n2]at hP;cases hP
 let H':Hp:=upd (upd (upd H c' (.frz oc Fz)) h'.objs.size (.frz (E1 fd) Fz)) P (.tbl (ps++#[.int i t1,.int j t2,.ref c']))
 have gP:H' P=AA (.tbl (ps++#[.int i t1,.int j t2,.ref c'])):=n0;have gf:H' h'.objs.size=AA (.frz (E1 fd) Fz):=by show upd _ _ _ _=_;rw[e8 (DF fP)];exact n0
 have gc:H' c'=AA (.frz oc Fz):=by show upd _ _ _ _=_;rw[e8 (DF cP),e8 cf];exact n0
 have ge:∀b,b≠P->b≠h'.objs.size->b≠c'->H' b=H b:=λb b1 b2 b3=>by show upd _ _ _ _=_;rw[e8 b1,e8 b2,e8 b3]
 have go:∀b u,H b=AA u->b≠P->H' b=AA u:=λb u e b1=>by rw[ge b b1 (o6 e n2) (o6 e n1)];exact e
 have nt:∀b u,H b=AA u->(∀ps,u≠.tbl ps)->b≠P:=λb u e n z=>by rw[z,hP]at e;cases e;exact n _ rfl
 have hk:∀b o,b≠P->s.heap.get? b=AA o->(h'.push (E1 fd)).get? b=AA o:=λb o n e=>AQ _ (hx b o n e);have TKH:TK X.K H H':=⟨⟨λa xs z=>by
  rcases z with(z|⟨o',z⟩)|z
  ·exact .inl (.inl (go _ _ z (nt _ _ z λ_=>nofun)))
  ·exact .inl (.inr ⟨o',go _ _ z (nt _ _ z λ_=>nofun)⟩)
  ·exact .inr z,λa xs z=>go _ _ z (nt _ _ z λ_=>nofun)⟩,λa o u z _=>go _ _ z (nt _ _ z λ_=>nofun)⟩
 have CF:D7 H' (.ref c'):=⟨c',oc,Fz,vs,q,t,rfl,gc,ah7,hd,hv⟩;refine⟨H',I.un (h':=h'.push (E1 fd)) ⟨λb o e n _ _=>?_,λb o e n _ _=>?_,λb o e n _=>?_,λb o e _=>?_,λb xs e=>?_,λb o u e=>?_,λb qs e=>?_⟩ (λb u e=>?_),TKH,λa o e k=>?_,⟨λa o e=>?_,λP0 hP0=>?_⟩,gf,by rw[hcd];exact CF⟩
 ·exact hk b o (λz=>by rw[z,hP]at n;cases n) e
 ·exact⟨o.slots,hk b o (λz=>by rw[z,hP]at n;cases n) e⟩
 ·have lb:=Ar e;rw[ge b (λz=>by rw[z,hP]at n;cases n) (BE (Ab lb hsz)) (BE (Ab lb hc))];exact n
 ·by_cases hb:b=P
  ·subst hb;exact⟨_,AQ _ ht⟩
  ·exact⟨o,hk b o hb e⟩
 ·exact go _ _ e (nt _ _ e λ_=>nofun)
 ·exact go _ _ e (nt _ _ e λ_=>nofun)
 ·by_cases hb:b=P
  ·subst hb;rw[hP]at e;cases e;exact⟨_,gP⟩
  ·exact⟨#[],by rw[go _ _ e hb];simp⟩
 ·by_cases b1:b=P
  ·subst b1;rw[gP]at e;cases e;exact AQ _ ht
  by_cases b2:b=h'.objs.size
  ·subst b2;rw[gf]at e;cases e;exact X8 (Ai _ rfl)
  by_cases b3:b=c'
  ·subst b3;rw[gc]at e;cases e;exact X8 (AQ _ hoc)
  rw[ge b b1 b2 b3]at e;refine(I.hok b u e).stay (λc v hc' z=>hk c v ?_ z) (λa z=>go _ _ z (nt _ _ z λ_=>nofun)) λa xs z=>go _ _ z (nt _ _ z λ_=>nofun)
  rcases hc' with rfl|hc'
  ·exact b1
  ·exact nt _ _ hc' λ_=>nofun
 ·by_cases ha:a=P
  ·subst ha;rw[hP]at e;cases e;exact⟨⟨_,gP,.inr ⟨_,_,rfl,rfl⟩⟩,k⟩
  ·exact⟨⟨o,go _ _ e ha,.inl rfl⟩,k⟩
 ·have z:=rs.ob a o e;obtain⟨u,hu,hn⟩:=au2 z;have ea:H' a=H a:=by rw[hu];exact go _ _ hu (nt _ _ hu hn)
  cases o with
  |lst ds=>obtain⟨vs,q,w⟩:=z;exact⟨vs,by rw[ea];exact q,w.mono TKH⟩
  |fro ds=>
   obtain⟨vs,q|⟨o',q⟩,w⟩:=z
   ·exact⟨vs,.inl (by rw[ea];exact q),w.mono TKH⟩
   ·exact⟨vs,.inr ⟨o',by rw[ea];exact q⟩,w.mono TKH⟩
  |dct kvs=>obtain⟨vs,q,w⟩:=z;exact⟨vs,by rw[ea];exact q,w.mono TKH⟩
  |dtt kvs=>obtain⟨vs,q,w,t⟩:=z;exact⟨vs,by rw[ea];exact q,w.mono TKH,t⟩
  |ins c fs=>obtain⟨C,dx,vs,q,n,w⟩:=z;exact⟨C,dx,vs,by rw[ea];exact q,n,w.mono TKH⟩
 ·by_cases hb:P0=P
  ·subst hb;refine⟨_,gP,?_,λpos cv hcv=>?_⟩
   ·rw[FJ];exact al7 _ _ (AW _) hT.tr
   ·rw[FJ]at hcv
    rcases an5 _ _ (AW _) hT.tr hcv with z|z
    ·exact(hT.co pos cv z).mono TKH
    ·rw[z];exact CF
  ·obtain⟨qs,e,o⟩:=rs.tb P0 hP0;exact⟨qs,go _ _ e hb,o.tr,λpos cv hcv=>(o.co pos cv hcv).mono TKH⟩
def bw4{name qual}{params}{fb}{scope}{pos}{line}{cl}{Q}(I:L2.Inv X pins σ H s)(rs:RelS X.K st H)(L:LamOk X)(hcl:Ho scope X.env=pure cl)
  (h:∀f doc pm cv ct H' s',Made X pins σ H st f (A2 name qual params fb scope cl doc pm cv ct) H' s'->Q (.ref f) s') :
  AV (model X.prog X.w) X.A (makeFunction name qual params fb scope X.env [] [] [] pos line) Q X.xe s:=by
 obtain⟨c,P,hcode,C,hPs⟩:=L.tab;obtain⟨ps,hP,hT⟩:=rs.tb P hPs;have hPh:s.heap.get? P=AA (HQ ps):=I.hok P _ hP;have hg:=I.mod.glob.keeps I.bk;have hgP:AO≠P:=λz=>by
  obtain⟨o,es,ep,e,hd,_⟩:=hg;rw[z,hPh]at e;cases e;cases hd
 have hB:s.heap.BuiltinsAt X.mg P:=by
  obtain⟨bm,ob,b1,b2,b3,b4,b5,b6⟩:=L.bm;have b3':=I.bk _ _ b3;refine⟨bm,ob,b1,b2,λz=>?_,λz=>?_,b3',b4,b5,b6⟩
  ·obtain⟨o,es,ep,e,hd,_⟩:=hg;rw[<-z,b3']at e;cases e;rw[b6]at hd;cases hd
  ·lia
 have C':=C.keeps I.bk;cases hh:Fy pos ps.toList with
 |none=>
  cases fb with
  |stmts body=>
   refine W.makeFunction_K hcl I.ok.glob hg hcode C' hPh hT.tr hh hgP hB λc' ct doc h' tk hx hc hlt hr ht=>?_;obtain⟨H',M⟩:=ar3 (fd:=A2 name qual params (.stmts body) scope cl doc ((X.mg "__name__").getD .none) (.ref c') ct) I rs hP hT hx hc hlt hr ht rfl;exact h _ _ _ _ _ _ _ M
  |expr body=>
   refine W.kla_makeFunction hcl I.ok.glob hg hcode C' hPh hT.tr hh hgP hB λc' ct h' tk hx hc hlt hr ht=>?_;obtain⟨H',M⟩:=ar3 (fd:=A2 name qual params (.expr body) scope cl .none ((X.mg "__name__").getD .none) (.ref c') ct) I rs hP hT hx hc hlt hr ht rfl;exact h _ _ _ _ _ _ _ M
 |some cv=>
  have cd:=hT.co pos cv hh;cases fb with
  |stmts body=>
   refine W.makeFunction_hit hcl I.ok.glob hg hcode C' hPh hT.tr hh hB λct doc h' tk hk hsz=>?_;exact h _ doc ((X.mg "__name__").getD .none) cv ct _ _ (ap8 I rs hk hsz cd)
  |expr body=>
   refine W.kla_makeFunctionHit hcl I.ok.glob hg hcode C' hPh hT.tr hh hB λct h' tk hk hsz=>?_;exact h _ .none ((X.mg "__name__").getD .none) cv ct _ _ (ap8 I rs hk hsz cd)
end
end Ek
namespace Ek
open PySem PySem.Spec PyProof.Rows L2
variable [Tbs]
theorem at7{K}{H}{env}{σ}(hE:RelE K H env σ):∀{cp}{cs},C5 env cp=AA cs ->
  ∃us:List V,IsDs K H cs us/\us.length=cp.length/\∀(i:Nat)v,us[i]?=AA v->∃j,cp[i]?=AA j/\σ[j]?=AA (AA v)
 |[],cs,h=>by
  cases h;exact⟨[],.nil,rfl,λi v z=>by simp at z⟩
 |j::cp,cs,h=>by
  unfold C5 at h
  split at h
  ·rename_i d ds h1 h2;cases h;obtain⟨us,r,l,a⟩:=at7 hE h2;obtain⟨v,hv,is⟩:=hE.at' j d h1;refine⟨v::us,.cons is r,by simp[l],λi w z=>?_⟩;cases i with
   |zero=>simp at z;subst z;exact⟨j,rfl,hv⟩
   |succ i=>simp_all
  ·cases h
structure NestOk(X:Cx)(params:DD)(fb:Dj)(scope:BB)(np:Nat)(N ps:List Str)(cp:List Nat)(b:Ss):Prop where
 sc:FnScC N ps scope
 lp:ps.length=np
 mt:Tbs.mt b scope N fb
 bind:∀(name qual:Str)(cl:List (Str×AI))(doc pm cv ct:AG)(us:List AG),us.length=ps.length->EZ (A2 name qual params fb scope cl doc pm cv ct) ⟨us,[]⟩=pure (ps.zip us)
 cap:∀(i j:Nat),cp[i]?=AA j->∃x,X.N[j]?=AA x/\N[np+i]?=AA x/\(x,Au)∈scope.names
 fre:∀x,(x,Au)∈scope.names->(∃i:Nat,∃j:Nat,cp[i]?=AA j/\X.N[j]?=AA x)/\X.env.scope.names.lookup x=AA .cell/\X.fn x=AH/\X.ow x=AB
section
variable {X:Cx} {pins:List (AI×Obj)} {σ:L2.St} {H:Hp} {s:AL} {st:Sto}
def b05{name qual:Str}{params:DD}{fb:Dj}{scope:BB}{pos:Pos}{line:Nat}{np:Nat}{N ps:List Str}{cp:List Nat}{b:Ss}{env:c9}{cs:List D}{Q:AG->AL->Prop}
  (I:L2.Inv X pins σ H s) (rs:RelS X.K st H) (hE:RelE X.K H env σ) (L:LamOk X) (S:NestOk X params fb scope np N ps cp b) (hc:C5 env cp=AA cs)
  (h:∀f H' s',L2.Inv X pins σ H' s'->TK X.K H H'->Ev st H st H'->RelS X.K st H'->IsD X.K H' (.clo np N b cs) (.ref f)->Q (.ref f) s') :
  AV (model X.prog X.w) X.A (makeFunction name qual params fb scope X.env [] [] [] pos line) Q X.xe s:=by
 obtain⟨us,ius,lus,aus⟩:=at7 hE hc
 let fs:List Str:=(scope.names.filter λy=>y.2==.free).map (·.1)
 have mfs:∀x,x∈fs↔(x,Au)∈scope.names:=λx=>by
  simp only[fs,Et,mem_filter,beq_iff_eq];constructor
  ·rintro⟨⟨y,k⟩,⟨h1,h2⟩,rfl⟩;subst h2;exact h1
  ·intro h1;exact⟨(x,.free),⟨h1,rfl⟩,rfl⟩
 have hcel:∀x,(x,Au)∈scope.names->∃c,X.env.cells.lookup x=AA c:=λx hx=>I.ok.has x (.inl (S.fre x hx).2.1);obtain⟨H1,I1,e1,f1⟩:=an1 I fs λx hx=>⟨(S.fre x ((mfs x).mp hx)).2.2.1,(S.fre x ((mfs x).mp hx)).2.2.2,hcel x ((mfs x).mp hx)⟩;have hcl:Ho scope X.env=pure (m8 X.env.cells scope.names []):=ac5 λy hy hk=>by
  obtain⟨y,k⟩:=y;subst hk;obtain⟨c,hc⟩:=hcel y hy;simp only[hc,ID]
 refine bw4 I1 (bm3 rs e1) L hcl λf doc pm cv ct H2 s2 M=>?_;have tk:TK X.K H H2:=(av2 e1).trans M.tk;have val:∀(j:Nat)x v,X.N[j]?=AA x->σ[j]?=AA (AA v)->(x,Au)∈scope.names->∃c o u w,(m8 X.env.cells scope.names []).lookup x=AA c/\H2 c=AA (.frz o u)/\(∀vs,u≠.lst vs)/\o.data=.cell (AA w)/\c8 v w:=λj x v hN hs hx=>by
  obtain⟨m,hn,hl⟩:=I1.loc;obtain⟨w,r,l⟩:=hl j x v hN hs (.inr (.inl (S.fre x hx).2.1));obtain⟨c,o,u,a1,a2,a3,a4⟩:=f1 x ((mfs x).mpr hx)
  rcases l with⟨k1,_⟩|⟨_,c2,l1,o2,l2,l3⟩
  ·have k1':X.env.scope.names.lookup x=AA .local:=k1;rw[(S.fre x hx).2.1]at k1';cases k1'
  ·rw[a1]at l1;cases l1;rw[a4]at l2;cases l2;exact⟨c,o,u,w,U7 a1 hx,M.tk.2 _ _ _ a2 a3,a3,l3,r⟩
 have un:∀x c,(m8 X.env.cells scope.names []).lookup x=AA c->X.env.cells.lookup x=AA c/\(x,Au)∈scope.names:=λx c hx=>C6 hx;refine h f H2 s2 M.inv tk ((bt9 e1).trans M.ev) M.rs (.clo (us:=us) ⟨A2 name qual params fb scope (m8 X.env.cells scope.names []) doc pm cv ct,ps,⟨S.sc,S.lp,S.mt,S.bind name qual _ doc pm cv ct,rfl,rfl,λx hx=>?_,λx c hx=>(un x c hx).2,λx y c hx hy=>I.ok.inj x y c (un x c hx).1 (un y c hy).1⟩,⟨⟨_,_,M.fn,ah7,rfl⟩,M.cd,λx c hx=>?_,λi v hv=>?_⟩⟩ (by rw[ius.len]) (ius.mono tk).at')
 ·obtain⟨c,hc⟩:=hcel x hx;exact⟨c,U7 hc hx⟩
 ·obtain⟨⟨i,j,hi,hj⟩,_⟩:=S.fre x (un x c hx).2;have hil:i<us.length:=by rw[lus];exact(Ac.mp hi).1
  obtain⟨j',hj',hs'⟩:=aus i _ (AM hil);rw[hi]at hj';cases hj';obtain⟨c',o,u,w,b1,b2,b3,b4,b5⟩:=val j x _ hj hs' (un x c hx).2;have hx':(m8 X.env.cells scope.names []).lookup x=AA c:=hx;rw[b1]at hx';cases hx';exact⟨o,u,w,b2,b3,b4⟩
 ·obtain⟨j,hj,hs⟩:=aus i v hv;obtain⟨x,n1,n2,n3⟩:=S.cap i j hj;obtain⟨c,o,u,w,b1,b2,b3,b4,b5⟩:=val j x v n1 hs n3;exact⟨x,c,o,u,w,n2,b1,b2,b3,b4,b5⟩
def cf6{name}{params}{body}{scope}{pos}{i np}{N ps}{cp}{b}(hN:X.N.Nodup)(hi:X.N[i]?=AA name)(hx:Loc X.env.scope name)(hf:X.fn name=AB\/X.env.scope.names.lookup name=AA .local)
  (h1:params.defaults=[]) (h2:params.kw_defaults=[]) (h3:∀env,annTrees params AC env=[]) (L:LamOk X) (S:NestOk X params (.stmts body) scope np N ps cp b) :
  PS X (.FunctionDef name params body [] AC [] scope AC name pos) (upS X.K λF env st=>∃cs,C5 env cp=AA cs/\F.nx (env.set i (AA (.clo np N b cs))) st):=by
 intro pins s σ H F I q;obtain⟨env,st,Fd,hE,hS,⟨cs,hc,ht⟩,hq⟩:=q;exact W.nestDef_K h1 h2 (h3 _) (b05 I hS hE L S hc λf H' s' I' tk ev rs is=>U9 I' hN hi hx (v:=.ref f) rfl (λs2 I2=>⟨_,H',I2,hq.nx _ _ H' st ev ((hE.mono tk).set is i) rs ht⟩) hf)
end
end Ek
namespace Ek
open PySem PySem.Spec PyProof.Rows L2
variable [Tbs]
variable{fd:Bi}{vs:List V}{N:List Str}{H:Hp}
abbrev bk5(fb:Dj)(env:Env):Code:=match fb with
 |.stmts b=>.func b env
 |.expr e=>.expr e env
def bp9{prog:Ah}{w:Aq}{A:BP}{R:Ia->AL->Prop}{s:AL}{a c:AI}{args:Args}{o oc:Obj}{vs:Array AG}{q:Str}{t:Tok}(hroom:A.depth<Hj)(ho:s.heap.get? a=AA o)(hd':o.data=.func fd)
  (hco:fd.scope.isCoroutine=AH) (hgen:fd.scope.isGenerator=AH) (hc:fd.code=.ref c) (hoc:s.heap.get? c=AA oc) (hdc:oc.data=.fields vs) (hq:vs[1]?=AA (.str q t))
  (h:AV (model prog w) A.in1 (EZ fd args) (λbinds s₁=>
   AV (model prog w) A.in1 (Kx fd.scope fd.globals fd.closure binds (q++".<locals>.") (AA a) fd.code AC fd.builtins)
    (λenv s₂=>s₂.heap.NoLimit/\Dw (model prog w) A (bk5 fd.body env) R s₂) (λe s'=>R (.error e) s') s₁) (λe s'=>R (.error e) s') s) :
  Dw (model prog w) A (.call (.ref a) args) R s:=by
 refine HP ?_;show AV _ A.in1 (callAny (.ref a) args) _ _ s;simp only[callAny];refine AD (JX ho ?_);simp only[hd',callFunction,hco,hgen,hc];rw[hc]at h;refine AD (m:=field (.ref c) 1) (DX hoc hdc hq (AD (AJ ?_)));refine AD (Bf h (λbinds s₁ h₁=>AD (Bf h₁ (λenv s₂ h₂=>AD (wpAny_enterFrame h₂.1 hroom
  ?_)) λ_ _ h'=>h')) λ_ _ h'=>h')
 have h3:=h₂.2;cases hb:fd.body with
 |stmts b=>rw[hb]at h3;exact AJ (And.intro rfl h3)
 |expr e=>rw[hb]at h3;exact AJ (And.intro rfl h3)
theorem an0{x:Str}{u:AG}:∀{ps:List Str}{us:List AG}{i:Nat},ps.Nodup->ps[i]?=AA x->us[i]?=AA u->(ps.zip us).reverse.lookup x=AA u
 |[],_,_,_,h,_=>by simp at h
 |_::_,[],_,_,_,h=>by simp at h
 |p::ps,w::us,i,nd,h1,h2=>by
  rw[FZ,Dh,List.lookup_append];cases i with
  |zero=>
   simp at h1 h2;subst h1 h2;have:(ps.zip us).reverse.lookup p=AC:=by
    rw[List.lookup_eq_none_iff];intro y hy;have:=(GU (List.mem_reverse.mp hy)).1;have ne:p≠y.1:=λz=>(Cs.mp nd).1 (z▸this);simpa using ne
   rw[this];simp[DG]
  |succ i=>
   rw[an0 (i:=i) (Cs.mp nd).2 (by simpa using h1) (by simpa using h2)];rfl
abbrev cxC(P:Ah)(w:Aq)(K:AN)(mg:Str->Option AG)(base:Heap)(N:List Str)(scope:BB)(cl:List (Str×AI))(q:Str)(f:AI)(cd:AG)(A:BP)(outer:List Env)(s:AL)(H:Hp):Cx where
 prog:=P
 w:=w
 K:=K
 mg:=mg
 base:=base
 A:=A.deeper (newEnv scope s.heap.objs.size AO cl (q++".<locals>.") (AA f) cd AC Cq)
 N:=N
 s₀:=s
 H₀:=H
 env:=newEnv scope s.heap.objs.size AO cl (q++".<locals>.") (AA f) cd AC Cq
 outer:=outer
 stack:=newEnv scope s.heap.objs.size AO cl (q++".<locals>.") (AA f) cd AC Cq::outer
 ex:=[]
 calm:=AB
 fn:=λy=>!(scope.names.any λz=>z.1==y&&z.2==.free)
 pn:=[]
 xe:=λ_ _=>False
def bf1{P:Ah}{w:Aq}{K:AN}{mg:Str->Option AG}{base:Heap}{ps:List Str}{np:Nat}{b:Ss}{q:Str}{f:AI}{A:BP}{outer:List Env}{s:AL}{h1:Heap}{tk:Nat}{us:List AG}{us0:List V}
  (cf:CloF fd np N ps b) (cr:CloR H f fd np N us0) (hd:A.handled=AC) (e0:Env0 P w K mg base A outer s H) (hl:vs.length=ps.length) (r:c0 vs us)
  (hns:h1.Ns s.heap.objs.size (λx=>(ps.zip us).reverse.lookup x)) (hk:∀b o,s.heap.get? b=AA o->h1.get? b=AA o) :
  Inv (cxC P w K mg base N fd.scope fd.closure q f fd.code A outer s H) [] (r8 N (vs++us0)) H {s with heap:=h1,toks:=tk}:=by
 have S:=cf.sc;have noA:∀b:AI,b∉(cxC P w K mg base N fd.scope fd.closure q f fd.code A outer s H).ex:=λb z=>absurd (show b∈([]:List AI) from z) ∎;have hpl:ps.length<=N.length:=by have:=congrArg Dl S.pre;rw[Bt]at this;lia
 have hful:(vs++us0).length<=N.length:=by
  rw[AU,hl];cases hu:us0.length with
  |zero=>lia
  |succ m=>
   have hm:m<us0.length:=by lia
   obtain⟨x,_,_,_,_,n1,_⟩:=cr.at' m _ (AM hm);have:=(Ac.mp n1).1;have:=cf.np;lia
 have fnF:∀x c,fd.closure.lookup x=AA c->(!(fd.scope.names.any λz=>z.1==x&&z.2==.free))=AH:=λx c h=>by
  have hm:=cf.fre x c h;have:(fd.scope.names.any λz=>z.1==x&&z.2==.free)=AB:=HM.mpr ⟨(x,.free),hm,∎⟩;rw[this];rfl
 have celH:∀{c:AI}{o:Obj}{u:HO},H c=AA (.frz o u)->h1.get? c=AA o:=λ{c o u}e=>by
  obtain⟨z,_⟩:=e0.hok c _ e;exact hk _ _ z
 refine⟨⟨e0.mod,S.kind,rfl,rfl,AW _,λy z c h1 h2=>cf.inj y z c h1 h2,λy hy=>?_,λy c h hc=>?_,λ_=>hd,HV e0.frames,.inr ⟨rfl,rfl⟩,λb z=>absurd z (noA b),e0.bs,e0.bsz,λb _ _=>noA b,λb z=>absurd z (noA b),e0.funs,e0.frf⟩,
  rfl,e0.bare,Un.kept hk,⟨_,hns,λi y v h1 h2 h3=>?_⟩,λy c h=>?_,e0.hok.fresh (AW _),λy c h=>?_,λp hp=>absurd (show p ∈ ([]:List (AI × Obj)) from hp) ∎,e0.hok.kept hk,?_⟩
 ·have hy:fd.scope.names.lookup y=AA .cell\/fd.scope.names.lookup y=AA .free:=hy
  rcases hy with hy|hy
  ·exact absurd rfl (S.nocell _ (PySem.mem_of_lookup hy))
  ·exact cf.has y (PySem.mem_of_lookup hy)
 ·have hc':fd.closure.lookup y=AA c:=hc
  rcases h with h|h
  ·have h':(!(fd.scope.names.any λz=>z.1==y&&z.2==.free))=AB:=h;rw[fnF y c hc']at h';cases h'
  ·cases h
 ·have hi:i<(vs++us0).length:=by
   unfold L2.r8 at h2
   by_cases hi:i<(vs++us0).length
   ·exact hi
   ·rw[Ad (by simpa using hi)]at h2;rw[DU]at h2
    split at h2<;>cases h2
  have ha:(vs++us0)[i]?=AA v:=by
   unfold L2.r8 at h2;rw[Aj (by simpa using hi),Aw]at h2;cases e:(vs++us0)[i]? with
   |none=>rw[e]at h2;cases h2
   |some a=>rw[e]at h2;cases h2;rfl
  have h1':N[i]?=AA y:=h1
  by_cases hv:i<vs.length
  ·rw[Aj hv]at ha;obtain⟨u,hu,rv⟩:=r.get ha;have hp:ps[i]?=AA y:=by
    rw[<-S.pre,HK ⋯];exact h1'
   have ndP:ps.Nodup:=by rw[<-S.pre];exact S.nd.sublist (Fx _ _)
   exact⟨u,rv,.inl ⟨S.par y (Cg hp),an0 ndP hp hu⟩⟩
  ·rw[Ad ⋯]at ha;obtain⟨x,c,o',u',ww,n1,n2,n3,n4,n5,n6⟩:=cr.at' _ v ha;have e:np+(i-vs.length)=i:=by have:=cf.np;lia
   rw[e,h1']at n1;cases n1;exact⟨ww,n6,.inr ⟨.inr (S.fre _ (cf.fre y c n2) rfl),c,n2,o',celH n3,n5⟩⟩
 ·obtain⟨o',u',ww,n3,n4,n5⟩:=cr.cl y c h;exact⟨AA ww,o',celH n3,n5⟩
 ·obtain⟨o',u',ww,n3,n4,n5⟩:=cr.cl y c h;exact .inr ⟨fnF y c h,o',u',n3⟩
 ·unfold L2.r8;show _=N.length;rw[AU,AX,DC];lia
abbrev b33(X:Cx)(fb:Dj)(Z:Sg)(b:Ss):Prop:=match fb with
 |.stmts l=>PSs X l (upS X.K (d8 Z b))
 |.expr x=>∃e,b=.cons (.ret e) .nil/\PE X x (up X.K (wpE Z e))
def an6{K}{ds}(r:IsDs K H ds vs):RelE K H (ds.map AA++AY (N.length-ds.length) AC) (L2.r8 N vs):=by
 refine⟨by simp[L2.r8,r.len],λi x h=>?_⟩;unfold L2.r8
 by_cases hi:i<ds.length
 ·rw[Aj (by simp_all),Aw,AM hi]at h;simp only[Eg,Ct]at h;obtain⟨v,hv,is⟩:=r.get (AM hi);refine⟨v,?_,by simp_all⟩;rw[Aj (by rw[AX,<-r.len];exact hi),Aw,hv];rfl
 ·rw[Ad (by simp_all),DU]at h
  split at h<;>cases h
def bf8{K}{ds cs}{us}(r:IsDs K H ds vs)(r2:IsDs K H cs us):RelE K H (D3 N ds cs) (L2.r8 N (vs++us)):=an6 (r.append r2)
def ce9{P:Ah}{w:Aq}{K:AN}{mg:Str->Option AG}{base:Heap}{n np:Nat}{fa:AI}{ps:List Str}{b:Ss}{cs:List D}{Z:Sg}(cf:CloF fd np N ps b)
  (hbody:∀(q:Str)(A:BP)(outer:List Env)(s:AL)(H:Hp),Room n (cxC P w K mg base N fd.scope fd.closure q fa fd.code A outer s H).A->b33 (cxC P w K mg base N fd.scope fd.closure q fa fd.code A outer s H) fd.body Z b) :
  FnOk P w K mg base CX0 (n+1) fa fd ps (R6 K fa fd np N cs λds st Q=>ds.length=np/\d8 Z b {nx:=λ_ st'=>∃s2,Sub s2 st'/\Q .non s2,rt:=λd st'=>∃s2,Sub s2 st'/\Q d s2} (D3 N ds cs) st):=by
 refine⟨λvs H Q E hsp=>?_,λA outer s H args us vs Q E hr e0 hb r hsp=>?_⟩
 ·obtain⟨us0,ds,st,Qd,cr,ics,is,rs,hs,hq⟩:=hsp;rw[<-is.len,hs.1,cf.np]
 ·obtain⟨us0,ds,st,Qd,cr,ics,is,rs,⟨hlen,hs⟩,hq⟩:=hsp;have S:=cf.sc;have hl:vs.length=ps.length:=by rw[<-is.len,hlen,cf.np]
  have lim:s.heap.NoLimit:=e0.mod.nolimit.keeps λb o e=>(e0.bs b o e).1;obtain⟨o,u,f1,f2,f3⟩:=cr.ex;obtain⟨c,oc,uc,vc,q,t,c1,c2,c3,c4,c5⟩:=cr.cd;obtain⟨ho,_⟩:=e0.hok fa _ f1;obtain⟨hoc,_⟩:=e0.hok c _ c2;have hloc:∀y∈ps.zip us,fd.scope.names.lookup y.1=AA .local:=λ⟨x,v⟩hy=>S.par x (GU hy).1;refine bp9 hr.depth ho f3 S.co S.gen c1 hoc c4 c5 (hb _ _ _ _ ?_);rw[cf.gl,cf.bl];refine JI S.nocell hloc (λh1 hns hsb=>?_) S.kind;have hk:∀b o,s.heap.get? b=AA o->h1.get? b=AA o:=λb o e=>hsb.extBut b o (BE (Ar e)) (AQ _ e);refine⟨lim.keeps hk,?_⟩;have I:=bf1 (q:=q) (tk:=s.toks+(ps.zip us).length) cf cr hr.hd e0 hl r hns hk;have hB:=hbody q A outer s H (hr.deeper _);have hE:RelE K H (D3 N ds cs) (r8 N (vs++us0)):=bf8 is ics;have fin:∀{σ':L2.St}{H':Hp}{v:V}{u:AG}{s':AL},Inv (cxC P w K mg base N fd.scope fd.closure q fa fd.code A outer s H) [] σ' H' s'->c8 v u->Q v H'->CE outer P w H s Q u s':=
   λ{σ' H' v u s'}J rv q=>⟨v,H',J.os,J.bare,J.base,J.hok,rv,q⟩
  have rt:∀v d H' st',Ev st H st' H'->IsD K H' d v->RelS K st' H'->(∃s2,Sub s2 st'/\Qd d s2)->Q v H':=λv d H' st' ev is' rs'⟨s2,sub,q⟩=>hq v d H' s2 (ev.drop sub) is' (rs'.sub sub) q;cases hfb:fd.body with
  |stmts l=>
   rw[hfb]at hB;refine codeAny_func (Bf (hB [] _ _ H {nx:=λ_ H'=>Q .non H',rt:=Q} I ⟨D3 N ds cs,st,_,hE,rs,hs,λenv σ H' st' ev hE hS q=>rt _ .non H' st' ev .non hS q,λenv σ H' st' ev hE hS q=>q.elim,λenv σ H' st' ev hE hS q=>q.elim,λv e H' st' ev is' rs' q=>rt v e H' st' ev is' rs' q⟩) (λfl s' hs=>?_) λe s' z=>z.elim);cases fl with
   |ret u=>
    obtain⟨v,σ',H',J,rv,q⟩:=hs;exact fin J rv q
   |next=>
    obtain⟨σ',H',J,q⟩:=hs;exact fin (v:=V.non) (u:=Bh) J rfl q
   |brk=>
    obtain⟨_,_,_,q⟩:=hs;exact AT q
   |cont=>
    obtain⟨_,_,_,q⟩:=hs;exact AT q
  |expr x=>
   rw[hfb]at hB;obtain⟨e,rfl,hB⟩:=hB;refine W.kla_codeExpr (Bf (hB [] _ _ H Q I ⟨D3 N ds cs,st,_,hE,rs,(show wpE Z e (D3 N ds cs) st _ from hs),λv d H' st' ev is' rs' q=>rt v d H' st' ev is' rs' q⟩) (λu s' hs=>?_) λe s' z=>z.elim);obtain⟨v,H',J,rv,q⟩:=hs;exact fin J rv q
end Ek
namespace Ek
open PySem PySem.Spec PyProof.Rows L2
variable [Tbs]
variable{x:AR}{C:AR->Prop}{g m:Str}
abbrev J8:List Str:=["len","abs","int","sum","list","tuple","isinstance","max","range","enumerate","reversed","str","bool","min","sorted","zip","any","dict","set"]
abbrev isM(f:Str):Bool:=f.cps.contains 46
structure FOk(X:Cx)(f:Str)(sp:Spec):Prop where
 ex:∃k a fd ps,FnOk X.prog X.w X.K X.mg X.base CX0 k a fd ps (t4 X.K sp)/\Room k X.A/\X.mg f=AA (.ref a)/\Bo X.K (.ref a)=AB/\l0 X.K fd ps []/\BH X.K AO f=AA (AA (.ref a))
abbrev n8:Str:=⟨#[33]⟩
abbrev p9(x:Str):Str:=⟨#[33]++x.cps⟩
abbrev U5(p:DD):Option (List Str):=if p.posonlyargs.isEmpty&&p.vararg.isNone&&p.kwonlyargs.isEmpty&&p.kw_defaults.isEmpty&&p.kwarg.isNone&&p.defaults.isEmpty&&p.args.all (·.annotation.isNone)&&AE (p.args.map (·.arg)).Nodup&&!p.args.isEmpty&&AE (p.args.length<=3)then AA (p.args.map (·.arg))else AC
abbrev ai9(sc:BB)(N:List Str)(scope:BB)(Nl ps:List Str)(np:Nat)(cp:List Nat):Bool:=
 (ps.length==np)&&(scope.kind==.function)&&!scope.isCoroutine&&!scope.isGenerator&&decide Nl.Nodup&&(Nl.take ps.length==ps)&&ps.all (λx=>scope.names.lookup x==AA .local)&&scope.names.all (λy=>!(y.2==.cell))&&
 scope.names.all (λy=>!(y.2==.free)||(scope.names.lookup y.1==AA .free&&sc.names.lookup y.1==AA .cell&&N.contains (p9 y.1)&&(BG cp.length).any λi=>match cp[i]? with|some j=>N[j]?==AA y.1|none=>AH))&&
 (BG cp.length).all (λi=>match cp[i]? with|some j=>(match N[j]? with|some x=>(Nl[np+i]?==AA x)&&scope.names.any (λz=>z.1==x&&z.2==.free)|none=>AH)|none=>AH)
abbrev glb(sc:BB)(f:Str):Bool:=sc.names.lookup f==AA .globalImplicit
abbrev Z6(sc:BB)(x:Str):Bool:=match sc.names.lookup x with
 |some .local=>AB|some .cell=>AB|some .free=>AB|_=>AH
abbrev B9(sc:BB)(x:Str):Bool:=match sc.names.lookup x with
 |some .local=>AB|some .cell=>AB|_=>AH
abbrev lcl(sc:BB)(x:Str):Bool:=sc.names.lookup x==AA .local
abbrev okN(x:Str):Bool:=!(x==("__debug__":Str))&&!(x==("__classdict__":Str))
abbrev a36(x:AR):Bool:=!([22,26,7].contains x.ctorIdx)
abbrev v0(x:AR):Bool:=!(x.ctorIdx==5)
abbrev D9(x:AR):Bool:=!([8,9,10].contains x.ctorIdx)
abbrev ak8(scope sc:BB):BB:=
 {scope with names:=scope.names.map λ(n,k)=>if(k==.free&&sc.kind==.function&&sc.names.lookup n==AA .cell)then(n,.cell)else(n,k)}
abbrev Q5(sc scope:BB)(N Nc:List Str)(fr:List Nat)(k:Nat):Bool:=
 (scope.kind==.function)&&scope.names.all (λy=>!(y.2==.cell))&&scope.names.all (λy=>!(y.2==.local)||scope.names.lookup y.1==AA .local)&&
 scope.names.all (λy=>!(y.2==.free)||sc.names.lookup y.1==AA .cell||sc.names.lookup y.1==AA .free)&&scope.names.all (λy=>!(y.2==.free)||!(scope.names.any λz=>z.1==y.1&&z.2==.local))&&
 decide Nc.Nodup&&!(Nc.contains n8)&&(Nc.length==fr.length+k)&&((BG fr.length).all λi=>match Nc[i]?,fr[i]? with
  |some x,AA j=>(N[j]?==AA x)&&scope.names.any (λz=>z.1==x&&z.2==.free)|_,_=>AH)
def an{a b:Bool}(h:(a&&b)=AB):a=AB/\b=AB:=FI.1 h
def nt{b}(h:(!b)=AB):b=AH:=by grind
def dE{p}[Decidable p]{f:p->Bool}{C:Prop}(h:(if h:p then f h else AH)=AB)(H:∀e,f e=AB->C):C:=by
 lia
abbrev xBo(x:AR)(k:LG->List AR->Pos->Bool):Bool:=if h:x.ctorIdx=0 then FK x h k else AH
def a92{k}(h:xBo x k=AB)(H:∀o l p,k o l p=AB->C (.BoolOp o l p)):C x:=
 dE h λe=>FK x e (λo l p _=>H o l p) e
abbrev xBi(x:AR)(k:AR->FE->AR->Pos->Bool):Bool:=if h:x.ctorIdx=2 then Fa x h k else AH
def cw5{k}(h:xBi x k=AB)(H:∀a o b p,k a o b p=AB->C (.BinOp a o b p)):C x:=
 dE h λe=>Fa x e (λa o b p _=>H a o b p) e
abbrev xU(x:AR)(k:UnaryOp->AR->Pos->Bool):Bool:=if h:x.ctorIdx=3 then Ez x h k else AH
def xU_{k}(h:xU x k=AB)(H:∀o a p,k o a p=AB->C (.UnaryOp o a p)):C x:=
 dE h λe=>Ez x e (λo a p _=>H o a p) e
abbrev xIf(x:AR)(k:AR->AR->AR->Pos->Bool):Bool:=if h:x.ctorIdx=5 then Fb x h k else AH
def cw7{k}(h:xIf x k=AB)(H:∀a b c p,k a b c p=AB->C (.IfExp a b c p)):C x:=
 dE h λe=>Fb x e (λa b c p _=>H a b c p) e
abbrev xD(x:AR)(k:List (Option AR)->List AR->Pos->Bool):Bool:=if h:x.ctorIdx=6 then GJ x h k else AH
def xD_{k}(h:xD x k=AB)(H:∀a b p,k a b p=AB->C (.Dict a b p)):C x:=
 dE h λe=>GJ x e (λa b p _=>H a b p) e
abbrev xLC(x:AR)(k:AR->List IN->BB->Pos->Bool):Bool:=if h:x.ctorIdx=8 then Eh x h k else AH
def cu6{k}(h:xLC x k=AB)(H:∀a g s p,k a g s p=AB->C (.ListComp a g s p)):C x:=
 dE h λe=>Eh x e (λa g s p _=>H a g s p) e
abbrev xCm(x:AR)(k:AR->List Eo->List AR->Pos->Bool):Bool:=if h:x.ctorIdx=15 then FA x h k else AH
def cx9{k}(h:xCm x k=AB)(H:∀a o b p,k a o b p=AB->C (.Compare a o b p)):C x:=
 dE h λe=>FA x e (λa o b p _=>H a o b p) e
abbrev xCa(x:AR)(k:AR->List AR->List Jq->Pos->Bool):Bool:=if h:x.ctorIdx=16 then GK x h k else AH
def cv3{k}(h:xCa x k=AB)(H:∀f a w p,k f a w p=AB->C (.Call f a w p)):C x:=
 dE h λe=>GK x e (λf a w p _=>H f a w p) e
abbrev xK(x:AR)(k:Const->Nat->Pos->Bool):Bool:=if h:x.ctorIdx=19 then Ei x h k else AH
def xK_{k}(h:xK x k=AB)(H:∀c n p,k c n p=AB->C (.Constant c n p)):C x:=
 dE h λe=>Ei x e (λc n p _=>H c n p) e
abbrev xA(x:AR)(k:AR->Str->Pos->Bool):Bool:=if h:x.ctorIdx=20 then EU x h k else AH
def xA_{k}(h:xA x k=AB)(H:∀a f p,k a f p=AB->C (.Attribute a f p)):C x:=
 dE h λe=>EU x e (λa f p _=>H a f p) e
abbrev xS(x:AR)(k:AR->AR->Pos->Bool):Bool:=if h:x.ctorIdx=21 then EV x h k else AH
def xS_{k}(h:xS x k=AB)(H:∀a b p,k a b p=AB->C (.Subscript a b p)):C x:=
 dE h λe=>EV x e (λa b p _=>H a b p) e
abbrev xN(x:AR)(k:Str->Pos->Bool):Bool:=if h:x.ctorIdx=23 then GL x h k else AH
def xN_{k}(h:xN x k=AB)(H:∀y p,k y p=AB->C (.Name y p)):C x:=
 dE h λe=>GL x e (λy p _=>H y p) e
abbrev xL(x:AR)(k:List AR->Pos->Bool):Bool:=if h:x.ctorIdx=24 then GM x h k else AH
def xL_{k}(h:xL x k=AB)(H:∀l p,k l p=AB->C (.List l p)):C x:=
 dE h λe=>GM x e (λl p _=>H l p) e
abbrev xT(x:AR)(k:List AR->Nat->Pos->Bool):Bool:=if h:x.ctorIdx=25 then Fc x h k else AH
def xT_{k}(h:xT x k=AB)(H:∀l n p,k l n p=AB->C (.Tuple l n p)):C x:=
 dE h λe=>Fc x e (λl n p _=>H l n p) e
abbrev xSl(x:AR)(k:Option AR->Option AR->Option AR->Pos->Bool):Bool:=if h:x.ctorIdx=26 then Fe x h k else AH
def cu0{k}(h:xSl x k=AB)(H:∀l u s p,k l u s p=AB->C (.Slice l u s p)):C x:=
 dE h λe=>Fe x e (λl u s p _=>H l u s p) e
abbrev l1{α:Type}(l:List α)(k:α->Bool):Bool:=Dz (motive:=λ_=>Bool) l AH λp r=>r.isEmpty&&k p
def l1_{α}{l}{k}{C:List α->Prop}(h:l1 l k=AB)(H:∀p,k p=AB->C [p]):C l:=
 match l,h with
 |[p],h=>H p h
abbrev l2{α:Type}(l:List α)(k:α->α->Bool):Bool:=Dz (motive:=λ_=>Bool) l AH λp r=>l1 r (k p)
def l2_{α}{l}{k}{C:List α->Prop}(h:l2 l k=AB)(H:∀p q,k p q=AB->C [p,q]):C l:=
 match l,h with
 |p::r,h=>l1_ (C:=λr=>C (p::r)) h λq=>H p q
abbrev lb(l:List AR)(k:AR->AR->Bool)(m:AR->List AR->Bool):Bool:=Dz (motive:=λ_=>Bool) l AH λp r=>if r.length=1 then l1 r (k p)else AE (2<=r.length)&&m p r
abbrev xKc(x:AR)(c:Const):Bool:=xK x λd _ _=>d==c
def N9{c}(h:xKc x c=AB)(H:∀n p,C (.Constant c n p)):=
 xK_ h λd n p e=>beq_iff_eq.1 e▸H n p
abbrev G6(x:AR)(g:Str):Bool:=xN x λy _=>y==g
def N1(h:G6 x g=AB)(H:∀p,C (.Name g p)):=
 xN_ h λy p e=>beq_iff_eq.1 e▸H p
abbrev xCl(x:AR)(k:AR->List AR->Pos->Bool):Bool:=xCa x λf a w p=>w.isEmpty&&k f a p
def ak0{k}(h:xCl x k=AB)(H:∀f a p,k f a p=AB->C (.Call f a [] p)):C x:=
 cv3 h λf a w p h=>by
  simp_all
abbrev F9(x:AR):Bool:=!(xCl x λf a _=>a.isEmpty&&xN f λ_ _=>AB)
abbrev xG(g:Str)(sc:BB)(x:AR)(k:List AR->Bool):Bool:=xCl x λf a _=>G6 f g&&(glb sc g&&k a)
def xG_{sc:BB}{k:List AR->Bool}{C:AR->Prop}(h:xG g sc x k=AB)(H:∀q a p,glb sc g=AB->k a=AB->C (.Call (.Name g q) a [] p)):C x:=
 ak0 h λf a p h=>N1 (C:=λf=>C (.Call f a [] p)) (an h).1 λq=>H q a p (an (an h).2).1 (an (an h).2).2
abbrev xC1(g:Str)(sc:BB)(x:AR)(k:AR->Bool):Bool:=xG g sc x λa=>l1 a k
def w6{sc:BB}{k:AR->Bool}{C:AR->Prop}(h:xC1 g sc x k=AB)(H:∀q a p,glb sc g=AB->k a=AB->C (.Call (.Name g q) [a] [] p)):C x:=
 xG_ h λq a p h1 h=>l1_ (C:=λa=>C (.Call (.Name g q) a [] p)) h λa=>H q a p h1
abbrev xC2(g:Str)(sc:BB)(x:AR)(k:AR->AR->Bool):Bool:=xG g sc x λa=>l2 a k
def al4{sc:BB}{k:AR->AR->Bool}{C:AR->Prop}(h:xC2 g sc x k=AB)(H:∀q a b p,glb sc g=AB->k a b=AB->C (.Call (.Name g q) [a,b] [] p)):C x:=
 xG_ h λq a p h1 h=>l2_ (C:=λa=>C (.Call (.Name g q) a [] p)) h λa b=>H q a b p h1
abbrev xM(m:Str)(x:AR)(k:AR->List AR->Bool):Bool:=xCl x λf a cp=>xA f λo n ap=>(n==m)&&((ap.endLine==cp.line)&&k o a)
def xM_{k}{C:AR->Prop}(h:xM m x k=AB)(H:∀o ap a cp,(ap.endLine==cp.line)=AB->k o a=AB->C (.Call (.Attribute o m ap) a [] cp)):=
 ak0 h λf a cp h=>xA_ (C:=λf=>C (.Call f a [] cp)) h λo n ap h=>beq_iff_eq.1 (an h).1▸H o ap a cp (an (an h).2).1 (an (an h).2).2
abbrev xM0(m:Str)(x:AR)(k:AR->Bool):Bool:=xM m x λo a=>a.isEmpty&&(F9 o&&k o)
def a99{k}(h:xM0 m x k=AB)(H:∀o ap cp,(ap.endLine==cp.line)=AB->F9 o=AB->k o=AB->C (.Call (.Attribute o m ap) [] [] cp)):=
 xM_ h λo ap a cp e h=>by
  cases a with
  |nil=>exact H o ap cp e (an (an h).2).1 (an (an h).2).2
  |cons=>exact(AK h).elim
abbrev xM1(m:Str)(x:AR)(k j:AR->Bool):Bool:=xM m x λo a=>l1 a λp=>F9 o&&(k o&&j p)
def ak3{k j}{C:AR->Prop}(h:xM1 m x k j=AB)(H:∀o ap p cp,(ap.endLine==cp.line)=AB->F9 o=AB->k o=AB->j p=AB->C (.Call (.Attribute o m ap) [p] [] cp)):=
 xM_ h λo ap a cp e h=>l1_ (C:=λa=>C (.Call (.Attribute o m ap) a [] cp)) h λp h=>H o ap p cp e (an h).1 (an (an h).2).1 (an (an h).2).2
abbrev xCo(x:AR)(k:Eo->AR->AR->Bool):Bool:=xCm x λa o b _=>l1 o λo=>l1 b λb=>k o a b
def al1{k}{C:AR->Prop}(h:xCo x k=AB)(H:∀o a b p,k o a b=AB->C (.Compare a [o] [b] p)):=
 cx9 h λa o b p h=>l1_ (C:=λo=>C (.Compare a o b p)) h λo h=>l1_ (C:=λb=>C (.Compare a [o] b p)) h λb=>H o a b p
abbrev mTg(ow:Bool)(t:Tg)(sc:BB)(N:List Str)(x:AR):Bool:=match t with
 |.n i=>xN x λy _=>(N[i]?==AA y)&&B9 sc y&&((ow&&!(N.contains (p9 y)))||lcl sc y)
 |.tup is=>xT x λes _ _=>(is.length==es.length)&&((is.zip es).all λp=>xN p.2 λy _=>(N[p.1]?==AA y)&&B9 sc y&&((ow&&!(N.contains (p9 y)))||lcl sc y))
abbrev oE(lo:E)(m:AR->Bool)(l:Option AR):Bool:=Ix (motive:=λ_=>Bool) l lo.isNon λl=>!lo.isNon&&m l
abbrev cE(c:E)(m:AR->Bool)(l:List AR):Bool:=if l.isEmpty then c.isNon else l1 l λx=>!c.isNon&&(v0 x&&m x)
mutual
noncomputable def mE:E->BB->List Str->AR->Bool
 |.non,_,_,x=>xKc x .none
 |.bl b,_,_,x=>xKc x (.bool b)
 |.int i,_,_,x=>xKc x (.int i)
 |.str y,_,_,x=>xKc x (.str y)
 |.v i,sc,N,x=>xN x λy _=>(N[i]?==AA y)&&(Z6 sc y&&okN y)
 |.tup es,sc,N,x=>xT x λxs _ _=>mEs es sc N xs&&AE (es.len<=1000)
 |.lst es,sc,N,x=>xL x λxs _=>mEs es sc N xs&&AE (es.len<=1000)
 |.bin o a b,sc,N,x=>xBi x λp q r _=>(q==o)&&(mE a sc N p&&mE b sc N r)
 |.neg a,sc,N,x=>xU x λo p _=>(o==.USub)&&mE a sc N p
 |.cmp o a b,sc,N,x=>xCo x λq p r=>(q==o)&&(mE a sc N p&&mE b sc N r)
 |.isN a,sc,N,x=>xCo x λq p r=>(q==.Is)&&(xKc r .none&&mE a sc N p)
 |.notN a,sc,N,x=>xCo x λq p r=>(q==.IsNot)&&(xKc r .none&&mE a sc N p)
 |.and a b,sc,N,x=>xBo x λo l ps=>(o==.And)&&lb l (λp q=>mE a sc N p&&mE b sc N q&&v0 p&&v0 q) (λp r=>mE a sc N p&&mE b sc N (.BoolOp .And r ps)&&v0 p)
 |.or a b,sc,N,x=>xBo x λo l ps=>(o==.Or)&&lb l (λp q=>mE a sc N p&&mE b sc N q&&v0 p&&v0 q) (λp r=>mE a sc N p&&mE b sc N (.BoolOp .Or r ps)&&v0 p)
 |.not a,sc,N,x=>xU x λo p _=>(o==.Not)&&(mE a sc N p&&v0 p)
 |.ite c a b,sc,N,x=>xIf x λp q r _=>(mE c sc N p&&v0 p)&&(mE a sc N q&&mE b sc N r)
 |.ix a b,sc,N,x=>xS x λp q _=>mE a sc N p&&mE b sc N q
 |.sl a lo hi,sc,N,x=>xS x λp s _=>mE a sc N p&&xSl s λl h st _=>st.isNone&&(oE lo (mE lo sc N) l&&oE hi (mE hi sc N) h)
 |.gget g k d,sc,N,x=>xM "get" x λo a=>G6 o g&&(glb sc g&&(okN g&&l2 a λp q=>mE k sc N p&&mE d sc N q))
 |.gsel g k,sc,N,x=>xS x λn q _=>G6 n g&&(glb sc g&&(okN g&&mE k sc N q))
 |.len a,sc,N,x=>xC1 "len" sc x (mE a sc N)
 |.toInt a,sc,N,x=>xC1 "int" sc x (mE a sc N)
 |.list a,sc,N,x=>xC1 "list" sc x (mE a sc N)
 |.tuple a,sc,N,x=>xC1 "tuple" sc x (mE a sc N)
 |.min a b,sc,N,x=>xC2 "min" sc x λp q=>mE a sc N p&&mE b sc N q
 |.call f es,sc,N,x=>xG f sc x λl=>okN f&&(!isM f&&(!l.isEmpty&&mEs es sc N l))
 |.calln f es,sc,N,x=>xG f sc x λl=>okN f&&(!isM f&&(!l.isEmpty&&mEs es sc N l))
 |.gf f,sc,_,x=>G6 x f&&(glb sc f&&(okN f&&!isM f))
 |.callv i es,sc,N,x=>xCl x λf l _=>xN f (λy _=>(N[i]?==AA y)&&(Z6 sc y&&okN y))&&(!l.isEmpty&&mEs es sc N l)
 |.isT t a,sc,N,x=>xC2 "isinstance" sc x λp g=>G6 g (AZ t)&&(glb sc (AZ t)&&(D2.contains t&&mE a sc N p))
 |.fld a f,sc,N,x=>xA x λo g _=>(g==f)&&(F9 o&&mE a sc N o)
 |.meth a m es,sc,N,x=>xM m x λo l=>(F9 o&&mE a sc N o)&&(mEs es sc N l&&AE (l.length<29))
 |.make c es,sc,N,x=>xG c sc x λl=>okN c&&mEs es sc N l
 |.app a b,sc,N,x=>xM1 "append" x (mE a sc N) (mE b sc N)
 |.ext a b,sc,N,x=>xM1 "extend" x (mE a sc N) (mE b sc N)
 |.popAt a b,sc,N,x=>xM1 "pop" x (mE a sc N) (mE b sc N)
 |.pop a,sc,N,x=>xM0 "pop" x (mE a sc N)
 |.any a,sc,N,x=>xC1 "any" sc x (mE a sc N)
 |.sset a,sc,N,x=>xC1 "sorted" sc x λp=>xC1 "set" sc p (mE a sc N)
 |.dni,sc,N,x=>xD x λl r _=>l.isEmpty&&r.isEmpty
 |.lrev a,sc,N,x=>xM0 "reverse" x (mE a sc N)
 |.gc g,sc,_,x=>G6 x g&&(glb sc g&&okN g)
 |.comp Nc fr k t it c e,sc,N,x=>xLC x λel g scope _=>l1 g λg=>(g.is_async==0)&&(Q5 sc scope N Nc fr k&&(mIt it sc N g.target g.iter&&(mTg AH t (ak8 scope sc) Nc g.target&&(mE e (ak8 scope sc) Nc el&&cE c (mE c (ak8 scope sc) Nc) g.ifs))))
noncomputable def mEs:Es->BB->List Str->List AR->Bool
 |.nil,_,_,xs=>xs.isEmpty
 |.cons e r,sc,N,xs=>Dz (motive:=λ_=>Bool) xs AH λx xs=>mE e sc N x&&mEs r sc N xs
noncomputable def mIt:It->BB->List Str->AR->AR->Bool
 |.seq e,sc,N,_,x=>mE e sc N x
 |.rng a,sc,N,_,x=>xC1 "range" sc x (mE a sc N)
 |.rng2 a b,sc,N,_,x=>xC2 "range" sc x λp q=>mE a sc N p&&mE b sc N q
 |.enum e,sc,N,tg,x=>xT tg (λ_ _ _=>AB)&&xC1 "enumerate" sc x (mE e sc N)
 |.rev e,sc,N,_,x=>xC1 "reversed" sc x (mE e sc N)
end
structure XOk(Z:Sg)(X:Cx):Prop where
 calm:X.calm=AB
 xe:X.xe=λ_ _=>False
 units:X.A.units+2200<Cm
 nd:X.N.Nodup
 blt:∀b∈J8,X.mg b=AC
 fns:∀f,isM f=AH->Z.F f=AB->FOk X f (Z.Phi f)
 fnd:∀f i,isM f=AH->Z.F f=AB->p6 Z.C f=AA i->∃k a fd ps tk,FnOk X.prog X.w X.K X.mg X.base CX0 k a fd ps (t4 X.K (Z.Phi f))/\Room k X.A/\X.mg f=AA (.ref a)/\Bo X.K (.ref a)=AB/\l0 X.K fd ps [.int i tk]
 nom:∀f fa,Z.F f=AB->BH X.K AO f=AA (AA (.ref fa))->isM f=AH
 cls:∀f c Ca,BH X.K AO c=AA (AA (.ref Ca))->f∈Z.C c->Cls X.K Ca/\x9 X.K Ca f
 mth:∀m c Ca,BH X.K AO c=AA (AA (.ref Ca))->Z.F (c6 c m)=AB->∃k f fd ps,Cls X.K Ca/\Meth X.K Ca m f/\FnOk X.prog X.w X.K X.mg X.base CX0 k f fd ps (t4 X.K (Z.Phi (c6 c m)))/\Room k X.A/\l0 X.K fd ps []
 mthd:∀m c Ca i,BH X.K AO c=AA (AA (.ref Ca))->Z.F (c6 c m)=AB->p6 Z.C (c6 c m)=AA i->∃k f fd ps tk,Cls X.K Ca/\Meth X.K Ca m f/\FnOk X.prog X.w X.K X.mg X.base CX0 k f fd ps (t4 X.K (Z.Phi (c6 c m)))/\Room k X.A/\l0 X.K fd ps [.int i tk]
 mks:∀c,Z.MF (c6 c "__init__")=AB->∃Ca k f fd ps,BH X.K AO c=AA (AA (.ref Ca))/\Mk X.K Ca f/\FnOk X.prog X.w X.K X.mg X.base CX0 k f fd ps (t4 X.K (Z.Mk (c6 c "__init__")))/\Room (k+1) X.A/\X.mg c=AA (.ref Ca)/\l0 X.K fd ps []
 tabs:∀g,Z.G g≠[]->GTab X.prog X.w X.K X.mg g (Z.G g)
 cst:∀g d,Z.Kc g=AA d->∃u,X.mg g=AA u/\B4 X.K d u=AB
 isc:∀c∈Z.C "!is",∃Ca,X.mg c=AA (.ref Ca)/\IscOk X.K c Ca
 kt:Tbs.kt=(Z.C "!kt").isEmpty
 lam:X.N.contains n8=AB->LamOk X/\∀x,X.N.contains (p9 x)=AB->X.fn x=AH/\X.ow x=AB
 mtE:∀(e:E)(sc:BB)(N:List Str)(x:AR),mE e sc N x=AB->N.contains n8=AH->Tbs.mt (.cons (.ret e) .nil) sc N (.expr x)
 clo:∀np N b cs fa fd ps,CloF fd np N ps b->∃k,FnOk X.prog X.w X.K X.mg X.base CX0 k fa fd ps (R6 X.K fa fd np N cs (Z.PhiC np N b cs))/\Room k X.A
end Ek
namespace Ek
open PySem PySem.Spec PyProof.Rows L2
variable [Tbs]
variable{x:AR}{Z:Sg}{X:Cx}{f:Str}{scope:BB}{Nc:List Str}
structure Snd(Z:Sg)(X:Cx)(e:E)(x:AR):Prop where
 v:PE X x (up X.K (wpE Z e))
 t:v0 x=AB->PT X x (upB X.K (wpT Z e))
 w:∀op vs p,x=.BoolOp op vs p->PW X x (upB X.K (wpT Z e))
 st:∀y p,x≠.Starred y p
 sl:∀l u s p,x≠.Slice l u s p
 se:∀l k p,x≠.Set l k p
def aj9(h:a36 x=AB):(∀y p,x≠.Starred y p)/\(∀l u s p,x≠.Slice l u s p)/\∀l k p,x≠.Set l k p:=
 ⟨λ_ _ z=>(by rw[z]at h;cases h),λ_ _ _ _ z=>(by rw[z]at h;cases h),λ_ _ _ z=>by rw[z]at h;cases h⟩
def Snd.plain{e}(he:PE X x (up X.K (wpE Z e)))(hi:∀whole,Hf x X.env whole=do let v <-whole;HS x.pos;holding [v] (truthy v))(hu:a36 x=AB)(hb:∀op vs p,x≠.BoolOp op vs p):Snd Z X e x:=
 ⟨he,λ_=>cn9 he hi,λop vs p z=>absurd z (hb op vs p),(aj9 hu).1,(aj9 hu).2.1,(aj9 hu).2.2⟩
abbrev cc4(x:AR):Bool:=[2,4,6,8,16,19,20,21,23,24,25].contains x.ctorIdx
def Snd.pl{e:E}(he:PE X x (up X.K (wpE Z e)))(h:cc4 x=AB):Snd Z X e x:=by
 cases x<;>first|exact(AK h).elim|exact Snd.plain he (λ_=>rfl) rfl (by intros;exact nofun)
def l6(h:glb X.env.scope f=AB):Gl X f:=by
 have:=by simpa[glb]using h
 exact this
def ag5{sc}(h:Z6 sc f=AB):Vis sc f:=by
 unfold Z6 at h
 split at h
 ·exact .inl (by assumption)
 ·exact .inr (.inl (by assumption))
 ·exact .inr (.inr (by assumption))
 ·cases h
def L9{sc}(h:B9 sc f=AB):Loc sc f:=by
 unfold B9 at h
 split at h
 ·exact .inl (by assumption)
 ·exact .inr (by assumption)
 ·cases h
def u5{x}(h:okN x=AB):(x=="__debug__")=AH/\(x=="__classdict__")=AH:=by
 simpa[okN]using h
def D8{o}(h:F9 o=AB):∀i p p',o≠.Call (.Name i p) [] [] p':=λ_ _ _ z=>by rw[z]at h;cases h
def XOk.blt'(h:XOk Z X)(b:Str)(hb:J8.contains b=AB:=by decide):X.mg b=AC:=h.blt b (by simpa using hb)
def XOk.pass(h:XOk Z X):HB (model X.prog X.w) X.A X.env X.xe:=by rw[h.xe];exact PassesOwn.never
def ai8{ow:Bool}{t:Tg}(hc:X.calm=AB)(hN:X.N.Nodup)(how:ow=AB->∀y,Loc X.env.scope y->X.N.contains (p9 y)=AH->X.fn y=AB\/X.env.scope.names.lookup y=AA .local)(h:mTg ow t X.env.scope X.N x=AB):PG X x (upG X.K t):=by
 have one:∀(i:Nat)(y:Str)(p:Pos),((X.N[i]?==AA y)&&B9 X.env.scope y&&((ow&&!(X.N.contains (p9 y)))||lcl X.env.scope y))=AB->X.N[i]?=AA y/\Loc X.env.scope y/\(X.fn y=AB\/X.env.scope.names.lookup y=AA .local):=λi y p h=>by
  simp only[BI,beq_iff_eq,Bool.or_eq_true,Gn]at h;refine⟨h.1.1,L9 h.1.2,?_⟩
  rcases h.2 with z|z
  ·exact how z.1 y (L9 h.1.2) z.2
  ·exact .inr (by simpa[lcl]using z)
 cases t with
 |n i=>
  refine xN_ (C:=λx=>PG X x (upG X.K (.n i))) h λy p h=>?_;obtain⟨a,b,c⟩:=one _ _ p h;exact b17 hN a b c
 |tup is=>
  refine xT_ (C:=λx=>PG X x (upG X.K (.tup is))) h λes k p h=>?_;obtain⟨hl,ha⟩:=an h;have all:∀(is:List Nat)(es:List AR),is.length=es.length->((is.zip es).all λp=>xN p.2 λy _=>(X.N[p.1]?==AA y)&&B9 X.env.scope y&&((ow&&!(X.N.contains (p9 y)))||lcl X.env.scope y))=AB->PGs X es (T2 is)/\(CC es X.env).length=is.length/\(CC es X.env).findIdx? (·.1)=AC:=by
   intro is
   induction is with
   |nil=>
    intro es hl _;cases es with
    |nil=>exact⟨by5,rfl,rfl⟩
    |cons a b=>cases hl
   |cons i is ih=>
    intro es hl h;cases es with
    |nil=>cases hl
    |cons e es=>
     obtain⟨h1,h2⟩:=an h;obtain⟨g1,g2,g3⟩:=ih es (Gw hl) h2;refine xN_ (C:=λe=>PGs X (e::es) (T2 (i::is))/\(CC (e::es) X.env).length=(i::is).length/\(CC (e::es) X.env).findIdx? (·.1)=AC) h1 λy py h1=>?_;obtain⟨a,b,c⟩:=one i y py h1;refine⟨bm2 (ax4 hN a b c) g1 rfl,congrArg (·+1) g2,?_⟩;show Je _ ((AH,assign (.Name y py) X.env)::CC es X.env)=AC;rw[List.findIdx?_cons];simp only[BD,if_false];rw[g3];rfl
  obtain⟨g1,g2,g3⟩:=all is es (beq_iff_eq.1 hl) ha;exact b65 hc g1 g2 g3
def ao5{fr:List Nat}{k:Nat}(h:Q5 X.env.scope scope X.N Nc fr k=AB):CompScope X scope Nc fr k:=by
 unfold Q5 at h;simp only[BI,beq_iff_eq,decide_eq_true_eq,DY]at h;obtain⟨⟨⟨⟨⟨⟨⟨⟨h1,h2⟩,h3⟩,h4⟩,h5⟩,h6⟩,_⟩,h7⟩,h8⟩:=h;refine⟨h1,λy hy=>?_,λy hy hl=>?_,λy hy hf=>?_,λy hy hf hm=>?_,h6,h7,λi x hx hi=>?_⟩
 ·simpa using h2 y hy
 ·have:=h3 y hy;rw[hl]at this;simpa using this
 ·have:=h4 y hy;rw[hf]at this;simpa using this
 ·have:=h5 y hy;rw[hf]at this;have:(scope.names.any λz=>z.1==y.1&&z.2==.local)=AH:=by simpa using this
  rw[Fw]at this;exact absurd ∎ (this _ hm)
 ·have:=h8 i (by simpa using hi);rw[hx]at this;cases q:fr[i]? with
  |none=>rw[q]at this;cases this
  |some j=>
   rw[q]at this;simp only[BI,beq_iff_eq,HM]at this;obtain⟨a,⟨n,kd⟩,hm,e1,e2⟩:=this;simp only at e1 e2;subst e1 e2;exact⟨j,rfl,a,hm⟩
def T9{fr:List Nat}{k:Nat}(h:Q5 X.env.scope scope X.N Nc fr k=AB):Nc.contains n8=AH:=by
 unfold Q5 at h;simp only[BI,Gn]at h;exact h.1.1.2
theorem XOk.comp{fr:List Nat}{k:Nat}(h:XOk Z X)(nl:Nc.contains n8=AH)(S:CompScope X scope Nc fr k)(C:AI)(fp:List AI)(pins:List (AI×Obj))(s:AL)(H:Hp):XOk Z (X.comp scope Nc C fp pins s H) where
 calm:=h.calm
 xe:=rfl
 units:=h.units
 nd:=S.nd
 blt:=h.blt
 fns:=λf hm hf=>let⟨k,a,fd,ps,x⟩:=(h.fns f hm hf).ex;⟨k,a,fd,ps,x⟩
 fnd:=λf i hm hf hd=>h.fnd f i hm hf hd
 nom:=λf fa a b=>h.nom f fa a b
 cls:=λf c Ca a b=>h.cls f c Ca a b
 mth:=λm c Ca a b=>h.mth m c Ca a b
 mthd:=λm c Ca i a b d=>h.mthd m c Ca i a b d
 mks:=λc a=>h.mks c a
 tabs:=λg hg=>⟨(h.tabs g hg).ex⟩
 lam:=λz=>by
  have z':Nc.contains n8=AB:=z;rw[nl]at z';cases z'
 cst:=h.cst
 isc:=h.isc
 kt:=h.kt
 mtE:=h.mtE
 clo:=λnp N b cs fa fd ps cf=>h.clo np N b cs fa fd ps cf
theorem fmc{α β:Type}{f g:α->Option β}:∀{l:List α},(∀n∈l,f n=g n)->l.filterMap f=l.filterMap g
 |[],_=>rfl
 |a::l,h=>by rw[CT,CT,h a (.head _),fmc λn hn=>h n (.tail _ hn)]
theorem aq4:∀(ns:List Str)(us:List AG),ns.Nodup->us.length=ns.length->(ns.filterMap λn=>((ns.zip us).lookup n).map (n,·))=ns.zip us/\∀n∈ns,((ns.zip us).lookup n).isNone=AH
 |[],us,_,_=>⟨rfl,nofun⟩
 |a::ns,u::us,hd,hl=>by
  obtain⟨h1,h2⟩:=aq4 ns us (Cs.1 hd).2 (Gw hl);refine⟨?_,λn hn=>?_⟩
  ·rw[FZ,CT,EE,beq_self_eq_true];refine congrArg ((a,u)::·) (Eq.trans (fmc λn hn=>?_) h1);rw[EE,beq_false_of_ne λe:n=a=>(Cs.1 hd).1 (e▸hn)]
  ·rw[FZ,EE];cases e:n==a with
   |true=>rfl
   |false=>exact h2 n ((Ae.1 hn).resolve_left λz=>by rw[z,beq_self_eq_true]at e;cases e)
def fz{α β γ:Type}{z:List α}{i}{f}{g:β->Sem γ}(hz:z=[]):forIn z i f>>=g=g i:=by subst hz;rfl
def cl2(name qual:Str)(l:List Arg)(fb:Dj)(scope:BB)(cl:List (Str×AI))(doc pm cv ct:AG)(us:List AG)(h:us.length=(l.map EW).length)(hd:(l.map EW).Nodup):EZ (A2 name qual ⟨[],l,AC,[],[],AC,[]⟩ fb scope cl doc pm cv ct) ⟨us,[]⟩=pure ((l.map EW).zip us):=by
 obtain⟨z1,z2⟩:=aq4 (l.map EW) us hd h;have h1:¬(AE (us.length>(l.map EW).length)&&AB)=AB:=by rw[h];simp
 have h3:(LH (0-(l.map EW).length) ([]:List AG))=[]:=List.drop_nil;have h2:¬(!(((l.map EW).take ((l.map EW).length-(LH (0-(l.map EW).length) ([]:List AG)).length)).filter (λn=>(((l.map EW).zip us).lookup n).isNone)).isEmpty)=AB:=by
  rw[h3,Av,JN,List.take_length,List.filter_eq_nil_iff.2 λn hn=>by rw[z2 n hn];exact AK];exact AK
 unfold EZ;refine(if_neg h1).trans ((if_neg h2).trans ((fz ?_).trans ?_))
 ·exact(congrArg _ h3).trans List.zip_nil_right
 ·exact congrArg (pure:List (Str×AG)->Sem _) ((congrArg _ (Be _)).trans z1)
theorem a94 env:∀l,(l.all λa=>a.annotation.isNone)=AB->annotationsOf (l++[]++[]++[]++[]) env=[]
 |[],_=>rfl
 |⟨_,AC,_⟩::l,h=>a94 env l h
def bg4{p}{ps}(h:U5 p=AA ps):p.defaults=[]/\p.kw_defaults=[]/\(∀env,defaultsOf p env=([],[]))/\(∀env,annTrees p AC env=[]) /\
  ∀name qual(fb:Dj)(scope:BB)cl(doc pm cv ct:AG)us,us.length=ps.length->EZ (A2 name qual p fb scope cl doc pm cv ct) ⟨us,[]⟩=pure (ps.zip us):=by
 obtain⟨po,l,va,ko,kd,ka,df⟩:=p;unfold U5 at h
 split at h
 ·rename_i hc;cases h;obtain⟨⟨⟨⟨⟨⟨⟨⟨⟨h1,h2⟩,h3⟩,h4⟩,h5⟩,h6⟩,h7⟩,h8⟩,_⟩,_⟩:=by simpa only[BI,List.isEmpty_iff,Option.isNone_iff_eq_none,decide_eq_true_eq]using hc
  subst h1 h2 h3 h4 h5 h6;exact⟨rfl,rfl,λ_=>rfl,λenv=>(Be _).trans (a94 env l h7),λ_ _ _ _ _ _ _ _ _ us hl=>cl2 _ _ l _ _ _ _ _ _ _ us hl h8⟩
 ·cases h
def bw6{params:DD}{fb:Dj}{np:Nat}{Nl ps:List Str}{cp:List Nat}{b:Ss}(h:ai9 X.env.scope X.N scope Nl ps np cp=AB)(hc:∀x,X.N.contains (p9 x)=AB->X.fn x=AH/\X.ow x=AB)(mt:Tbs.mt b scope Nl fb)
  (bind:∀(name qual:Str)(cl:List (Str×AI))(doc pm cv ct:AG)(us:List AG),us.length=ps.length->EZ (A2 name qual params fb scope cl doc pm cv ct) ⟨us,[]⟩=pure (ps.zip us)):NestOk X params fb scope np Nl ps cp b:=by
 unfold ai9 at h;simp only[BI,beq_iff_eq,Gn,decide_eq_true_eq,DY]at h;obtain⟨⟨⟨⟨⟨⟨⟨⟨⟨h1,h2⟩,h3⟩,h4⟩,h5⟩,h6⟩,h7⟩,h8⟩,h9⟩,h10⟩:=h;have key:∀x,(x,Au)∈scope.names->scope.names.lookup x=AA .free/\X.env.scope.names.lookup x=AA .cell/\X.N.contains (p9 x)=AB/\∃i:Nat,∃j:Nat,cp[i]?=AA j/\X.N[j]?=AA x:=λx hx=>by
  have:=h9 _ hx;simp only[beq_self_eq_true,EO,BS,BI,beq_iff_eq,HM]at this;obtain⟨⟨⟨a,b⟩,c⟩,i,_,d⟩:=this;refine⟨a,b,c,i,?_⟩
  split at d
  ·rename_i j hj;exact⟨j,hj,by simpa using d⟩
  ·cases d
 refine⟨⟨h2,h3,h4,h5,h6,h7,λy hy=>by simpa using h8 y hy,λy hy hk=>?_⟩,h1,mt,bind,λi j hj=>?_,λx hx=>?_⟩
 ·obtain⟨y,k⟩:=y;subst hk;exact(key y hy).1
 ·have hi:=(Ac.mp hj).1;have:=h10 i (by simpa using hi);rw[hj]at this;simp only at this
  split at this
  ·rename_i x hx;simp only[BI,beq_iff_eq,HM]at this;obtain⟨a,⟨y,k⟩,hm,e1,e2⟩:=this;simp only at e1 e2;subst e1 e2;exact⟨_,hx,a,hm⟩
  ·cases this
 ·simp_all
end Ek
namespace Ek
open PySem PySem.Spec PyProof.Rows L2
variable [Tbs]
variable{X:Cx}{Z:Sg}{e:E}{l:List AR}
structure SndA(Z:Sg)(X:Cx)(es:Es)(xs:List AR):Prop where
 a:PA X xs (upA X.K es.len (p3 Z es))
 pl:∀pos:Pos,(CU pos (Am xs X.env)).any (·.1)=AH
def a35{o}{q}{pos}{t}(h:PT X q (upB X.K (tst t))):PW X (.BoolOp o [q] pos) (upB X.K (tst t)):=by
 cases o with
 |And=>exact bw3 h
 |Or=>exact b28 h
def bq6:∀e(sc)N(l)(k)p,mE e sc N (.Set l k p)=AH:=by
 intro e sc N l k p;cases e<;>rfl
def bz6{t}(h:t∈D2):BK (AZ t)=AA (.type t)/\AZ t≠"__name__"/\(AZ t=="__debug__")=AH/\J8.contains (AZ t)=AB:=by
 simp only[D2,Ae,Ba,or_false]at h
 rcases h with rfl|rfl|rfl|rfl|rfl<;>exact⟨rfl,∅,∅,∅⟩
def ai4{env:Env}{it:It}{sc:BB}{N:List Str}{tg x:AR}(h:mIt it sc N tg x=AB):∀v,Dc x env v=pure v:=by
 have hx:∀l k p,x≠.Set l k p:=λl k p z=>by
  subst z;cases it with
  |seq e=>exact(AK ((bq6 e sc N l k p).symm.trans h)).elim
  |enum e=>exact(AK (an h).2).elim
  |_=>exact(AK h).elim
 intro v;cases x<;>first|rfl|exact absurd rfl (hx _ _ _)
def L6{K}{t t'}{σ}{H}{Q}(h:∀env st Q,t env st Q->t' env st Q)(q:up K t σ H Q):up K t' σ H Q:=by
 obtain⟨env,st,Qd,hE,hS,ht,hq⟩:=q;exact⟨env,st,Qd,hE,hS,h _ _ _ ht,hq⟩
def Z5{x}{P}(h:¬P)(w:∀env st Q,wpE Z e env st Q->P):PE X x (up X.K (wpE Z e)):=λ_ _ _ _ _ _ q=>by
 obtain⟨env,st,_,_,_,ht,_⟩:=q;exact absurd (w env st _ ht) h
def ba5{lo:E}{l:Option AR}(h:oE lo (mE lo X.env.scope X.N) l=AB)(H:∀x,mE lo X.env.scope X.N x=AB->Snd Z X lo x):PO X l (upO X.K λenv st k=>(if lo.isNon=AB then λk=>k AC st else λ(k:Option Int->Sto->Prop)=>wpE Z lo env st λd st'=>∃i,d=.int i/\k (AA i) st') k):=by
 cases l with
 |none=>rw[show lo.isNon=AB from h];exact bv3
 |some l=>
  obtain⟨h1,h2⟩:=an h;rw[show lo.isNon=AH from nt h1];exact b01 (H l h2).v
def ba2{c:E}(h:cE c (mE c X.env.scope X.N) l=AB)(H:∀x,mE c X.env.scope X.N x=AB->Snd Z X c x):PCs X l (upB X.K (if c.isNon=AB then λ_ st Q=>Q AB st else λenv st Q=>wpE Z c env st λd st'=>∃b,d=.bl b/\Q b st')):=by
 cases l with
 |nil=>
  rw[show c.isNon=AB from h];exact λpins' s' σ' H' Q' I'⟨env,st,Qd,hE,hS,ht,hq⟩=>bz2 pins' s' σ' H' Q' I' (hq AB H' st Ev.refl hS ht)
 |cons a l=>
  refine l1_ (C:=λl=>PCs X l _) (show l1 (a::l) (λx=>!c.isNon&&(v0 x&&mE c X.env.scope X.N x))=AB from h) λx h=>?_;obtain⟨h1,h2⟩:=an h;rw[show c.isNon=AH from nt h1];exact bs8 ((H x (an h2).2).t (an h2).1)
def mcF{cp}(hp:(CU cp (Am l X.env)).any (·.1)=AH)(h:l.length<29):Ft (l.length+0) (CU cp (Am l X.env)) (Hk cp (Fk [] X.env))=AB:=by
 unfold Ft;rw[show(CU cp (Am l X.env)).all (λx=>!x.1)=AB from by
  rw[DY];intro w hw;rw[Fw]at hp;simpa using hp w hw]
 exact decide_eq_true (Dy h)
def Snd.cm{a}{o}{b}{p}(he:PE X (.Compare a o b p) (up X.K (wpE Z e)))(ht:PT X (.Compare a o b p) (upB X.K (wpT Z e))):Snd Z X e (.Compare a o b p):=⟨he,λ_=>ht,nofun,nofun,nofun,nofun⟩
def Snd.bo{o}{b}{p}(he:PE X (.BoolOp o b p) (up X.K (wpE Z e)))(hw:PW X (.BoolOp o b p) (upB X.K (wpT Z e))):Snd Z X e (.BoolOp o b p):=⟨he,λ_=>hw.pt,λ_ _ _ _=>hw,nofun,nofun,nofun⟩
def lb_{k}{m}{C:List AR->Prop}(h:lb l k m=AB)(H:∀p q,k p q=AB->C [p,q])(J:∀p q r s,m p (q::r::s)=AB->C (p::q::r::s)):C l:=
 match l,h with
 |[p,q],h=>H p q h
 |p::q::r::s,h=>J p q r s h
def XOk.fnx(hX:XOk Z X)(f:Str)(fa:AI)(hF:Z.F f=AB)(hns:BH X.K AO f=AA (AA (.ref fa))):∃k fd ps,FnOk X.prog X.w X.K X.mg X.base CX0 k fa fd ps (t4 X.K (Z.Phi f))/\Room k X.A/\Bo X.K (.ref fa)=AB/\l0 X.K fd ps []:=by
 obtain⟨k,a,fd,ps,F,hr,hm,hk,hb,hn⟩:=(hX.fns f (hX.nom f fa hF hns) hF).ex;rw[hn]at hns;cases hns;exact⟨k,fd,ps,F,hr,hk,hb⟩
mutual
theorem c7(Z:Sg):∀(e:E)(X:Cx)(x:AR),XOk Z X->mE e X.env.scope X.N x=AB->Snd Z X e x
 |.non,X,x,hX,h=>N9 h λn p=>Snd.pl (by exact Z3 cb1 λ_=>.non) rfl
 |.bl b,X,x,hX,h=>N9 h λn p=>Snd.pl (by exact Z3 ck8 λ_=>.bl _) rfl
 |.int i,X,x,hX,h=>N9 h λn p=>Snd.pl (by exact Z3 cd9 λ_=>.int _) rfl
 |.str y,X,x,hX,h=>N9 h λn p=>Snd.pl (by exact Z3 b59 λ_=>.str _) rfl
 |.v i,X,x,hX,h=>xN_ h λy p h=>Snd.pl (by exact a51 (beq_iff_eq.1 (an h).1) (ag5 (an (an h).2).1) (u5 (an (an h).2).2).1 (u5 (an (an h).2).2).2) rfl
 |.tup es,X,x,hX,h=>xT_ h λl n p h=>Snd.pl (by exact ce7 (y8 Z es X _ hX (an h).1).a (of_decide_eq_true (an h).2)) rfl
 |.lst es,X,x,hX,h=>xL_ h λl p h=>Snd.pl (by exact a62 (y8 Z es X _ hX (an h).1).a (of_decide_eq_true (an h).2)) rfl
 |.bin o a b,X,x,hX,h=>cw5 h λp q r ps h=>by
  cases beq_iff_eq.1 (an h).1;exact Snd.pl (by exact b80 (c7 Z a X _ hX (an (an h).2).1).v (c7 Z b X _ hX (an (an h).2).2).v) rfl
 |.neg a,X,x,hX,h=>xU_ h λo p ps h=>by
  cases beq_iff_eq.1 (an h).1;exact Snd.plain (by exact b42 (c7 Z a X _ hX (an h).2).v) (λ_=>rfl) rfl (by intros;exact nofun)
 |.cmp o a b,X,x,hX,h=>al1 h λq p r ps h=>by
  cases beq_iff_eq.1 (an h).1;have ia:=c7 Z a X _ hX (an (an h).2).1;have ib:=c7 Z b X _ hX (an (an h).2).2;exact Snd.cm (by exact cb5 hX.units ia.v ib.v ib.se) (by unfold wpT;exact cf5 hX.units ia.v ib.v ib.se)
 |.isN a,X,x,hX,h=>al1 h λq p r ps h=>by
  cases beq_iff_eq.1 (an h).1;refine N9 (C:=λr=>Snd Z X (.isN a) (.Compare p [.Is] [r] ps)) (an (an h).2).1 λn pp=>?_;have ia:=c7 Z a X _ hX (an (an h).2).2;exact Snd.cm (by exact b88 ia.v) (by unfold wpT;exact b93 ia.v)
 |.notN a,X,x,hX,h=>al1 h λq p r ps h=>by
  cases beq_iff_eq.1 (an h).1;refine N9 (C:=λr=>Snd Z X (.notN a) (.Compare p [.IsNot] [r] ps)) (an (an h).2).1 λn pp=>?_;have ia:=c7 Z a X _ hX (an (an h).2).2;exact Snd.cm (by exact br5 ia.v) (by unfold wpT;exact br3 ia.v)
 |.and a b,X,x,hX,h=>a92 h λo l ps h=>by
  cases beq_iff_eq.1 (an h).1;refine lb_ (C:=λl=>Snd Z X (.and a b) (.BoolOp .And l ps)) (an h).2 (λp q h=>?_) λp q r d7 h=>?_
  ·have ia:=c7 Z a X _ hX (an (an (an h).1).1).1;have ib:=c7 Z b X _ hX (an (an (an h).1).1).2;exact Snd.bo (by exact a49 ia.v (a00 ib.v)) (by unfold wpT;exact a43 (ia.t (an (an h).1).2) (a35 (ib.t (an h).2)))
  ·have ia:=c7 Z a X _ hX (an (an h).1).1;have ib:=c7 Z b X _ hX (an (an h).1).2;exact Snd.bo (by exact a49 ia.v ib.v) (by unfold wpT;exact a43 (ia.t (an h).2) (ib.w _ _ _ rfl))
 |.or a b,X,x,hX,h=>a92 h λo l ps h=>by
  cases beq_iff_eq.1 (an h).1;refine lb_ (C:=λl=>Snd Z X (.or a b) (.BoolOp .Or l ps)) (an h).2 (λp q h=>?_) λp q r d7 h=>?_
  ·have ia:=c7 Z a X _ hX (an (an (an h).1).1).1;have ib:=c7 Z b X _ hX (an (an (an h).1).1).2;exact Snd.bo (by exact a80 ia.v (a00 ib.v)) (by unfold wpT;exact a72 (ia.t (an (an h).1).2) (a35 (ib.t (an h).2)))
  ·have ia:=c7 Z a X _ hX (an (an h).1).1;have ib:=c7 Z b X _ hX (an (an h).1).2;exact Snd.bo (by exact a80 ia.v ib.v) (by unfold wpT;exact a72 (ia.t (an h).2) (ib.w _ _ _ rfl))
 |.not a,X,x,hX,h=>xU_ h λo p ps h=>by
  cases beq_iff_eq.1 (an h).1;have ia:=c7 Z a X _ hX (an (an h).2).1;exact⟨by exact cd0 ia.v,λ_=>(by unfold wpT;exact b44 (ia.t (an (an h).2).2)),nofun,nofun,nofun,nofun⟩
 |.ite c a b,X,x,hX,h=>cw7 h λp q r ps h=>
  ⟨by exact b37 ((c7 Z c X _ hX (an (an h).1).1).t (an (an h).1).2) (c7 Z a X _ hX (an (an h).2).1).v (c7 Z b X _ hX (an (an h).2).2).v,nofun,nofun,nofun,nofun,nofun⟩
 |.ix a b,X,x,hX,h=>xS_ h λp q ps h=>
  have ib:=c7 Z b X _ hX (an h).2
  Snd.pl (by exact cs2 hX.units (c7 Z a X _ hX (an h).1).v ib.v ib.sl) rfl
 |.sl a lo hi,X,x,hX,h=>xS_ h λp s ps h=>cu0 (C:=λs=>Snd Z X (.sl a lo hi) (.Subscript p s ps)) (an h).2 λl u st p2 h2=>by
  cases st with
  |some _=>exact(AK h2).elim
  |none=>exact Snd.pl (by exact cn0 (c7 Z a X _ hX (an h).1).v (ba5 (an (an h2).2).1 λx=>c7 Z lo X x hX) (ba5 (an (an h2).2).2 λx=>c7 Z hi X x hX)) rfl
 |.gget g k d,X,x,hX,h=>xM_ h λo ap l cp hl h=>N1 (C:=λo=>Snd Z X (.gget g k d) (.Call (.Attribute o "get" ap) l [] cp)) (an h).1 λnp=>l2_ (C:=λl=>Snd Z X (.gget g k d) (.Call (.Attribute (.Name g np) "get" ap) l [] cp)) (an (an (an h).2).2).2 λp q h2=>
  have ik:=c7 Z k X _ hX (an h2).1;have id:=c7 Z d X _ hX (an h2).2
  Snd.pl (by exact bx6 (hX.tabs g) (l6 (an (an h).2).1) ik.v id.v ik.st id.st hl (u5 (an (an (an h).2).2).1).1) rfl
 |.gsel g k,X,x,hX,h=>xS_ h λn q ps h=>N1 (C:=λn=>Snd Z X (.gsel g k) (.Subscript n q ps)) (an h).1 λnp=>
  have ik:=c7 Z k X _ hX (an (an (an h).2).2).2
  Snd.pl (by exact b15 (hX.tabs g) (l6 (an (an h).2).1) ik.v ik.sl (u5 (an (an (an h).2).2).1).1) rfl
 |.len a,X,x,hX,h=>w6 h λq p ps h1 h2=>
  have ia:=c7 Z a X _ hX h2
  Snd.pl (by exact a56 (l6 h1) (hX.blt' _) ia.v ia.st) rfl
 |.toInt a,X,x,hX,h=>w6 h λq p ps h1 h2=>
  have ia:=c7 Z a X _ hX h2
  Snd.pl (by exact bp3 (l6 h1) (hX.blt' _) ia.v ia.st) rfl
 |.list a,X,x,hX,h=>w6 h λq p ps h1 h2=>
  have ia:=c7 Z a X _ hX h2
  Snd.pl (by exact b00 (l6 h1) (hX.blt' _) ia.v ia.st) rfl
 |.tuple a,X,x,hX,h=>w6 h λq p ps h1 h2=>
  have ia:=c7 Z a X _ hX h2
  Snd.pl (by exact bk7 (l6 h1) (hX.blt' _) ia.v ia.st) rfl
 |.min a b,X,x,hX,h=>al4 h λq p r ps h1 h2=>
  have ia:=c7 Z a X _ hX (an h2).1;have ib:=c7 Z b X _ hX (an h2).2
  Snd.pl (by exact cb6 hX.calm (l6 h1) (hX.blt' _) ia.v ib.v ia.st ib.st) rfl
 |.call f es,X,x,hX,h=>xG_ h λq l ps h1 h=>by
  cases l with
  |nil=>exact(AK (an (an (an h).2).2).1).elim
  |cons y ys=>cases es with
   |nil=>exact(AK (an (an (an h).2).2).2).elim
   |cons e0 er=>
    have i0:=c7 Z e0 X _ hX (an (an (an (an h).2).2).2).1;have ir:=y8 Z er X _ hX (an (an (an (an h).2).2).2).2;refine Snd.pl ?_ rfl
    by_cases hF:Z.F f=AB
    ·obtain⟨k,a,fd,ps,F,hr,hm,hk,hb,_⟩:=(hX.fns f (nt (an (an h).2).1) hF).ex;exact PE.imp (b18 F hr (l6 h1) hm hk hb (L5 i0.v ir.a i0.st) (u5 (an h).1).1 i0.st (ir.pl _)) λ_ _ _=>L6 λ_ _ _ ht=>ht.2
    ·exact Z5 hF λ_ _ _ ht=>ht.1
 |.calln f es,X,x,hX,h=>xG_ h λq l ps h1 h=>by
  cases l with
  |nil=>exact(AK (an (an (an h).2).2).1).elim
  |cons y ys=>cases es with
   |nil=>exact(AK (an (an (an h).2).2).2).elim
   |cons e0 er=>
    have i0:=c7 Z e0 X _ hX (an (an (an (an h).2).2).2).1;have ir:=y8 Z er X _ hX (an (an (an (an h).2).2).2).2;refine Snd.pl ?_ rfl
    by_cases hF:∃i,Z.F f=AB/\p6 Z.C f=AA i
    ·obtain⟨i,hF1,hF2⟩:=hF;obtain⟨k,a,fd,ps,tk,F,hr,hm,hk,hb⟩:=hX.fnd f i (nt (an (an h).2).1) hF1 hF2;exact PE.imp (bl9 F hr (l6 h1) hm hk hb (L5 i0.v ir.a i0.st) (u5 (an h).1).1 i0.st (ir.pl _)) λ_ _ _=>L6 λ_ _ _ ht=>by
      obtain⟨j,_,z,ht⟩:=ht;rw[hF2]at z;cases z;exact ht
    ·exact Z5 hF λ_ _ _ ht=>by obtain⟨j,a,b,_⟩:=ht;exact⟨j,a,b⟩
 |.gf f,X,x,hX,h=>N1 (C:=λx=>Snd Z X (.gf f) x) (an h).1 λp=>by
  refine Snd.pl ?_ rfl
  by_cases hF:Z.F f=AB
  ·obtain⟨k,a,fd,ps,F,hr,hm,hk,hb,hn⟩:=(hX.fns f (nt (an (an (an h).2).2).2) hF).ex;exact PE.imp (cm5 (l6 (an (an h).2).1) hm hn (u5 (an (an (an h).2).2).1).1) λ_ _ _=>L6 λ_ _ _ ht=>ht.2
  ·exact Z5 hF λ_ _ _ ht=>ht.1
 |.gc g,X,x,hX,h=>N1 (C:=λx=>Snd Z X (.gc g) x) (an h).1 λp=>by
  refine Snd.pl ?_ rfl;cases hk:Z.Kc g with
  |none=>exact λ_ _ _ _ _ _⟨env,st,Qd,hE,hS,⟨i,hi,_⟩,hq⟩=>nomatch hk.symm.trans hi
  |some i=>
   obtain⟨t,hm,hv⟩:=hX.cst g i hk;obtain⟨v,rv,is⟩:=B4.is hv;exact PE.imp (ay7 (v:=v) (l6 (an (an h).2).1) hm rv (u5 (an (an h).2).2).1) λσ H Q q=>by
    obtain⟨env,st,Qd,hE,hS,⟨i',hi,ht⟩,hq⟩:=q;cases hk.symm.trans hi;exact hq.here (is H) hS ht
 |.callv i es,X,x,hX,h=>ak0 h λf l ps h=>by
  refine xN_ (C:=λf=>Snd Z X (.callv i es) (.Call f l [] ps)) (an h).1 λy p h1=>?_;cases l with
  |nil=>exact(AK (an (an h).2).1).elim
  |cons z zs=>cases es with
   |nil=>exact(AK (an (an h).2).2).elim
   |cons e0 er=>
    have i0:=c7 Z e0 X _ hX (an (an (an h).2).2).1;have ir:=y8 Z er X _ hX (an (an (an h).2).2).2;refine Snd.pl ?_ rfl;exact bl8 (Z:=Z) (beq_iff_eq.1 (an h1).1) (ag5 (an (an h1).2).1) (u5 (an (an h1).2).2).1 (u5 (an (an h1).2).2).2 hX.fnx hX.clo (L5 i0.v ir.a i0.st) i0.st (ir.pl _)
 |.isT t a,X,x,hX,h=>al4 h λq p r ps h1 h2=>N1 (C:=λr=>Snd Z X (.isT t a) (.Call (.Name "isinstance" q) [p,r] [] ps)) (an h2).1 λnp=>by
  have hin:t∈D2:=List.contains_iff_mem.1 (an (an (an h2).2).2).1;obtain⟨b1,b2,b3,b4⟩:=bz6 hin;have ia:=c7 Z a X _ hX (an (an (an h2).2).2).2;exact Snd.pl (by exact cc6 hin (l6 h1) (hX.blt' _) (l6 (an (an h2).2).1) (hX.blt' _ b4) b1 b2 b3 ia.v ia.st) rfl
 |.fld a f,X,x,hX,h=>xA_ h λo g ap h=>by
  cases beq_iff_eq.1 (an h).1;exact Snd.pl (by exact a55 (C:=Z.C) (λc Ca=>hX.cls _ c Ca) (c7 Z a X _ hX (an (an h).2).2).v (v7 (D8 (an (an h).2).1))) rfl
 |.meth a m es,X,x,hX,h=>xM_ h λo ap l cp hl h=>by
  have hbo:=D8 (an (an h).1).1;have ia:=c7 Z a X _ hX (an (an h).1).2;have iall:=y8 Z es X _ hX (an (an h).2).1;refine Snd.pl ?_ rfl;cases l with
  |nil=>
   cases es with
   |nil=>exact PE.imp (bp5 (F:=Z.F) (Ph:=Z.Phi) (λc Ca=>hX.mth m c Ca) hl hbo ia.v) λ_ _ _=>L6 λ_ _ _ ht=>(by exact ht)
   |cons _ _=>exact(AK (an (an h).2).1).elim
  |cons z zs=>
   cases es with
   |nil=>exact(AK (an (an h).2).1).elim
   |cons e0 er=>
    exact b08 (F:=Z.F) (Ph:=Z.Phi) (λc Ca=>hX.mth m c Ca) (mcF (iall.pl cp) (of_decide_eq_true (an (an h).2).2)) hl hbo ia.v iall.a (c7 Z e0 X _ hX (an (an (an h).2).1).1).st ((y8 Z er X _ hX (an (an (an h).2).1).2).pl _)
 |.make c es,X,x,hX,h=>xG_ h λq l ps h1 h=>by
  have iall:=y8 Z es X _ hX (an h).2;refine Snd.pl ?_ rfl
  by_cases hF:Z.MF (c6 c "__init__")=AB
  ·obtain⟨Ca,k,f,fd,ps,hn,M,Fo,hr,hm,hb⟩:=hX.mks c hF;cases l with
   |nil=>
    cases es with
    |nil=>exact PE.imp (bp6 hn M Fo hr (l6 h1) hm hb (u5 (an h).1).1) λ_ _ _=>L6 λ_ _ _ ht=>(by exact ht.2)
    |cons _ _=>exact(AK (an h).2).elim
   |cons z zs=>
    cases es with
    |nil=>exact(AK (an h).2).elim
    |cons e0 er=>
     exact PE.imp (by2 hn M Fo hr (l6 h1) hm hb iall.a (u5 (an h).1).1 (c7 Z e0 X _ hX (an (an h).2).1).st ((y8 Z er X _ hX (an (an h).2).2).pl _)) λ_ _ _=>L6 λ_ _ _ ht=>ht.2
  ·exact Z5 hF λ_ _ _ ht=>ht.1
 |.app a b,X,x,hX,h=>ak3 h λo ap p cp hl h1 h2 h3=>
  have ib:=c7 Z b X _ hX h3
  Snd.pl (by exact b66 (c7 Z a X _ hX h2).v ib.v (D8 h1) ib.st hl) rfl
 |.ext a b,X,x,hX,h=>ak3 h λo ap p cp hl h1 h2 h3=>
  have ib:=c7 Z b X _ hX h3
  Snd.pl (by exact cd7 (c7 Z a X _ hX h2).v ib.v (D8 h1) ib.st hl) rfl
 |.popAt a b,X,x,hX,h=>ak3 h λo ap p cp hl h1 h2 h3=>
  have ib:=c7 Z b X _ hX h3
  Snd.pl (by exact bn5 (c7 Z a X _ hX h2).v ib.v (D8 h1) ib.st hl) rfl
 |.pop a,X,x,hX,h=>a99 h λo ap cp hl h1 h2=>Snd.pl (by exact b48 (c7 Z a X _ hX h2).v (D8 h1) hl) rfl
 |.any a,X,x,hX,h=>w6 h λq p ps h1 h2=>
  have ia:=c7 Z a X _ hX h2
  Snd.pl (by exact cd5 hX.calm (l6 h1) (hX.blt' _) ia.v ia.st) rfl
 |.sset a,X,x,hX,h=>w6 h λq z ps h1 h=>w6 (C:=λz=>Snd Z X (.sset a) (.Call (.Name "sorted" q) [z] [] ps)) h λq2 p ps2 h2 h3=>
  have ia:=c7 Z a X _ hX h3
  Snd.pl (by exact bx9 hX.calm (l6 h1) (hX.blt' _) (l6 h2) (hX.blt' _) ia.v ia.st) rfl
 |.dni,X,x,hX,h=>xD_ h λl r p h=>by
  cases l with
  |cons=>exact(AK h).elim
  |nil=>cases r with
   |cons=>exact(AK h).elim
   |nil=>exact Snd.pl (by exact ce4) rfl
 |.lrev a,X,x,hX,h=>a99 h λo ap cp hl h1 h2=>Snd.pl (by exact bt8 (c7 Z a X _ hX h2).v (D8 h1) hl) rfl
 |.comp Nc fr k t it c e,X,x,hX,h=>cu6 h λel g scope pos h=>by
  refine l1_ (C:=λg=>Snd Z X (.comp Nc fr k t it c e) (.ListComp el g scope pos)) h λg h=>?_;obtain⟨tg,itx,ifs,n⟩:=g;obtain⟨h0,h⟩:=an h;cases(beq_iff_eq.1 h0:n=0);obtain⟨h1,h⟩:=an h;obtain⟨h2,h⟩:=an h;obtain⟨h3,h⟩:=an h;have Sc:=ao5 h1;exact Snd.pl (PE.imp (br7 hX.calm Sc (ah4 Z it X tg itx hX h2)
   (λC fp pins s H=>ai8 (X:=X.comp scope Nc C fp pins s H) (ow:=AH) hX.calm Sc.nd nofun h3)
   (λC fp pins s H=>ba2 (X:=X.comp scope Nc C fp pins s H) (an h).2 λx h=>c7 Z c (X.comp scope Nc C fp pins s H) x (hX.comp (T9 h1) Sc C fp pins s H) h)
   (λC fp pins s H=>(c7 Z e (X.comp scope Nc C fp pins s H) el (hX.comp (T9 h1) Sc C fp pins s H) (an h).1).v) (ai4 h2)) λσ H Q q=>ap2 q) rfl
theorem y8(Z:Sg):∀(es:Es)(X:Cx)(xs:List AR),XOk Z X->mEs es X.env.scope X.N xs=AB->SndA Z X es xs
 |.nil,X,xs,hX,h=>by
  cases xs with
  |nil=>exact⟨by exact ag1,λ_=>rfl⟩
  |cons=>exact(AK h).elim
 |.cons e r,X,xs,hX,h=>by
  cases xs with
  |nil=>exact(AK h).elim
  |cons x xs=>
   have i0:=c7 Z e X _ hX (an h).1;have ir:=y8 Z r X _ hX (an h).2;refine⟨by exact L5 i0.v ir.a i0.st,λpos=>?_⟩;rw[k5 i0.st];exact ir.pl pos
theorem ah4(Z:Sg):∀(it:It)(X:Cx)(tg x:AR),XOk Z X->mIt it X.env.scope X.N tg x=AB->PI X tg x (upI X.K (u2 Z it))
 |.seq e,X,tg,x,hX,h=>by exact b94 (c7 Z e X x hX h).v
 |.rng a,X,tg,x,hX,h=>w6 (C:=λx=>PI X tg x (upI X.K (u2 Z (.rng a)))) h λq p ps h1 h2=>
  have ia:=c7 Z a X _ hX h2
  (by exact cg5 (l6 h1) (hX.blt' _) ia.v ia.st)
 |.rng2 a b,X,tg,x,hX,h=>al4 (C:=λx=>PI X tg x (upI X.K (u2 Z (.rng2 a b)))) h λq p r ps h1 h2=>
  have ia:=c7 Z a X _ hX (an h2).1;have ib:=c7 Z b X _ hX (an h2).2
  (by exact bs6 (l6 h1) (hX.blt' _) ia.v ib.v ia.st ib.st)
 |.enum e,X,tg,x,hX,h=>xT_ (C:=λtg=>PI X tg x (upI X.K (u2 Z (.enum e)))) (an h).1 λl n tp _=>w6 (C:=λx=>PI X _ x (upI X.K (u2 Z (.enum e)))) (an h).2 λq p ps h1 h2=>
  have ia:=c7 Z e X _ hX h2
  (by exact bw2 (l6 h1) (hX.blt' _) ia.v ia.st)
 |.rev e,X,tg,x,hX,h=>w6 (C:=λx=>PI X tg x (upI X.K (u2 Z (.rev e)))) h λq p ps h1 h2=>
  have ia:=c7 Z e X _ hX h2
  (by exact b58 (l6 h1) (hX.blt' _) ia.v ia.st)
end
end Ek
namespace Ek
open PySem PySem.Spec PyProof.Rows L2
variable [Tbs]
variable{x:BV}{C:BV->Prop}{e:E}{N:List Str}{el:AR}{gs:List IN}{scope:BB}{n:Nat}{env:Env}
abbrev sA(x:BV)(k:List AR->AR->Pos->Bool):Bool:=if h:x.ctorIdx=5 then FL x h k else AH
def sA_{k}(h:sA x k=AB)(H:∀l x p,k l x p=AB->C (.Assign l x p)):C x:=
 dE h λe=>FL x e (λl x p _=>H l x p) e
abbrev sX(x:BV)(k:AR->Pos->Bool):Bool:=if h:x.ctorIdx=24 then GN x h k else AH
def sX_{k}(h:sX x k=AB)(H:∀x p,k x p=AB->C (.Expr x p)):C x:=
 dE h λe=>GN x e (λx p _=>H x p) e
abbrev sI(x:BV)(k:AR->List BV->List BV->Pos->Bool):Bool:=if h:x.ctorIdx=12 then HI x h k else AH
def sI_{k}(h:sI x k=AB)(H:∀x a b p,k x a b p=AB->C (.If x a b p)):C x:=
 dE h λe=>HI x e (λx a b p _=>H x a b p) e
abbrev sR(x:BV)(k:Option AR->Pos->Bool):Bool:=if h:x.ctorIdx=3 then FM x h k else AH
def sR_{k}(h:sR x k=AB)(H:∀x p,k x p=AB->C (.Return x p)):C x:=
 dE h λe=>FM x e (λx p _=>H x p) e
abbrev sF(x:BV)(k:AR->AR->List BV->List BV->Pos->Bool):Bool:=if h:x.ctorIdx=9 then Gc x h k else AH
def sF_{k}(h:sF x k=AB)(H:∀g x a b p,k g x a b p=AB->C (.For g x a b p)):C x:=
 dE h λe=>Gc x e (λg x a b p _=>H g x a b p) e
abbrev sW(x:BV)(k:AR->List BV->List BV->Pos->Bool):Bool:=if h:x.ctorIdx=11 then Fg x h k else AH
def sW_{k}(h:sW x k=AB)(H:∀x a b p,k x a b p=AB->C (.While x a b p)):C x:=
 dE h λe=>Fg x e (λx a b p _=>H x a b p) e
abbrev sP(x:BV)(k:Pos->Bool):Bool:=if h:x.ctorIdx=25 then GO x h k else AH
def sP_{k}(h:sP x k=AB)(H:∀p,k p=AB->C (.Pass p)):C x:=
 dE h λe=>GO x e (λp _=>H p) e
abbrev sD(x:BV)(k:Str->DD->List BV->List AR->Option AR->List TypeParam->BB->Option BB->Str->Pos->Bool):Bool:=if h:x.ctorIdx=0 then EA x h k else AH
def sD_{k}(h:sD x k=AB)(H:∀name args body dl rt tp scope ts bind p,k name args body dl rt tp scope ts bind p=AB->C (.FunctionDef name args body dl rt tp scope ts bind p)):C x:=
 dE h λe=>EA x e (λname args body dl rt tp scope ts bind p _=>H name args body dl rt tp scope ts bind p) e
abbrev sA1(s:BV)(k:AR->AR->Bool):Bool:=sA s λl x _=>l1 l λt=>k t x
def T1{s}{k}{C:BV->Prop}(h:sA1 s k=AB)(H:∀t x p,k t x=AB->C (.Assign [t] x p)):=
 sA_ h λl x p h=>l1_ (C:=λl=>C (.Assign l x p)) h λt=>H t x p
mutual
noncomputable def mS:S->BB->List Str->BV->Bool
 |.set i e,sc,N,s=>sA1 s λt x=>mE e sc N x&&xN t λy _=>(N[i]?==AA y)&&(B9 sc y&&!(N.contains (p9 y)))
 |.iput o i v,sc,N,s=>sA1 s λt x=>(mE v sc N x&&D9 x)&&xS t λp q _=>mE o sc N p&&mE i sc N q
 |.put o i v,sc,N,s=>sA1 s λt x=>(mE v sc N x&&D9 x)&&xS t λp q _=>mE o sc N p&&mE i sc N q
 |.fldS o f v,sc,N,s=>sA1 s λt x=>(mE v sc N x&&D9 x)&&xA t λp g _=>(g==f)&&mE o sc N p
 |.ex e,sc,N,s=>sX s λx _=>mE e sc N x&&D9 x
 |.iff c a b,sc,N,s=>sI s λx p q _=>(mE c sc N x&&v0 x)&&(mSs a sc N p&&mSs b sc N q)
 |.ret e,sc,N,s=>sR s λx _=>Ix (motive:=λ_=>Bool) x AH (mE e sc N)
 |.retN,_,_,s=>sR s λx _=>x.isNone
 |.for t it b,sc,N,s=>sF s λtg x p q _=>q.isEmpty&&(mTg AB t sc N tg&&(mIt it sc N tg x&&mSs b sc N p))
 |.while c b,sc,N,s=>sW s λx p q _=>q.isEmpty&&((mE c sc N x&&v0 x)&&mSs b sc N p)
 |.dead,_,_,_=>AB
 |.dfn i np Nl cp b,sc,N,s=>sD s λname args body dl rt tp scope ts bind _=>(dl.isEmpty&&rt.isNone&&tp.isEmpty&&ts.isNone)&&(U5 args).any λps=>(name==bind)&&((N[i]?==AA name)&&(B9 sc name&&(!(N.contains (p9 name))&&(N.contains n8&&(ai9 sc N scope Nl ps np cp&&(!(Nl.contains n8)&&mSs b scope Nl body))))))
 |.pass,_,_,s=>sP s λ_=>AB
noncomputable def mSs:Ss->BB->List Str->List BV->Bool
 |.nil,_,_,l=>l.isEmpty
 |.cons s r,sc,N,l=>Dz (motive:=λ_=>Bool) l AH λx xs=>mS s sc N x&&mSs r sc N xs
end
abbrev mFB(b:Ss)(sc:BB)(N:List Str)(fb:Dj):Prop:=N.contains n8=AH/\match fb with
 |.stmts l=>mSs b sc N l=AB
 |.expr x=>∃e,b=.cons (.ret e) .nil/\mE e sc N x=AB
@[reducible]noncomputable def HF(X:Cx):Prop:=∀y,Loc X.env.scope y->X.N.contains (p9 y)=AH->X.fn y=AB\/X.env.scope.names.lookup y=AA .local
def cq0{sc:BB}{p:Pos}:mE e sc N (.SetComp el gs scope p)=AH:=by cases e<;>rfl
def cn6{sc:BB}{a b:AR}{p:Pos}:mE e sc N (.DictComp a b gs scope p)=AH:=by cases e<;>rfl
def ci5{sc:BB}{p:Pos}(h:mE e sc N (.ListComp el gs scope p)=AB):∃Nc fr k t it c e',e=.comp Nc fr k t it c e':=by
 cases e<;>first|exact⟨_,_,_,_,_,_,_,rfl⟩|exact absurd h AK
def J9{x}{t}(h:D9 x=AB):Ci x t n env=pure AH:=by
 cases x<;>first|rfl|cases h
def bz0{x t}(h:D9 x=AB):GP [t] x n env=pure AH:=J9 h
def bf7{p py:Pos}{y:Str}:∃b,Ci (.ListComp el gs scope p) (AA (.Name y py)) n env=pure b:=⟨_,rfl⟩
mutual
theorem ct4(Z:Sg)(hm:∀(b:Ss)(sc:BB)(N:List Str)(l:List BV),mSs b sc N l=AB->N.contains n8=AH->Tbs.mt b sc N (.stmts l)):∀(s:S)(X:Cx)(x:BV),XOk Z X->HF X->mS s X.env.scope X.N x=AB->PS X x (upS X.K (wpS Z s))
 |.set i e,X,x,hX,hf,h=>T1 (C:=λx=>PS X x (upS X.K (wpS Z (.set i e)))) h λtx v pos h=>xN_ (C:=λtx=>PS X (.Assign [tx] v pos) (upS X.K (wpS Z (.set i e)))) (an h).2 λy py h2=>by
  have h3:=(an h).1;have ie:=c7 Z e X v hX h3;have h1:=beq_iff_eq.1 (an h2).1;have hl:=L9 (an (an h2).2).1;have hf:=hf y hl (nt (an (an h2).2).2)
  by_cases hc:D9 v=AB
  ·exact ag2 hX.nd h1 hl ie.v (J9 hc) hf
  ·cases v with
   |ListComp el gs scope p=>
    obtain⟨b,hb⟩:=bf7 (el:=el) (gs:=gs) (scope:=scope) (p:=p) (py:=py) (y:=y) (n:=pos.line) (env:=X.env);cases b with
    |false=>exact ag2 hX.nd h1 hl ie.v hb hf
    |true=>
     obtain⟨Nc,fr,k,t,it,c,e,rfl⟩:=ci5 h3;revert hb;refine l1_ (C:=λgs=>Ci (.ListComp el gs scope p) (AA (.Name y py)) pos.line X.env=pure AB->PS X (.Assign [.Name y py] (.ListComp el gs scope p) pos) (upS X.K (wpS Z (.set i (.comp Nc fr k t it c e))))) h3 λg h hb=>?_;obtain⟨tg,itx,ifs,n⟩:=g;obtain⟨h0,h⟩:=an h;cases(beq_iff_eq.1 h0:n=0);obtain⟨g1,h⟩:=an h;obtain⟨g2,h⟩:=an h;obtain⟨g3,h⟩:=an h;have Sc:=ao5 g1;exact PS.imp (bg3 hX.calm hX.nd h1 hl hf Sc (ah4 Z it X tg itx hX g2)
      (λC fp pins s H=>ai8 (X:=X.comp scope Nc C fp pins s H) (ow:=AH) hX.calm Sc.nd nofun g3)
      (λC fp pins s H=>ba2 (X:=X.comp scope Nc C fp pins s H) (an h).2 λx h=>c7 Z c (X.comp scope Nc C fp pins s H) x (hX.comp (T9 g1) Sc C fp pins s H) h)
      (λC fp pins s H=>(c7 Z e (X.comp scope Nc C fp pins s H) el (hX.comp (T9 g1) Sc C fp pins s H) (an h).1).v) hb (ai4 g2)) λF σ H⟨env,st,Fd,hE,hS,ht',hq⟩=>
      ap2 ⟨env,st,(λd st'=>Fd.nx (env.set i (AA d)) st'),hE,hS,ht',λv d H' st' ev is rs q=>hq.nx _ _ H' st' ev ((hE.mono (ev.tk hS)).set is i) rs q⟩
   |SetComp el gs scope p=>exact(AK (cq0.symm.trans h3)).elim
   |DictComp a b gs scope p=>exact(AK (cn6.symm.trans h3)).elim
   |_=>exact absurd rfl hc
 |.iput o i v,X,x,hX,hf,h=>T1 (C:=λx=>PS X x (upS X.K (wpS Z (.iput o i v)))) h λtx y pos h=>xS_ (C:=λtx=>PS X (.Assign [tx] y pos) (upS X.K (wpS Z (.iput o i v)))) (an h).2 λp q ps h2=>
  (by exact bz3 hX.units (c7 Z v X y hX (an (an h).1).1).v (c7 Z o X p hX (an h2).1).v (c7 Z i X q hX (an h2).2).v (J9 (an (an h).1).2))
 |.put o i v,X,x,hX,hf,h=>T1 (C:=λx=>PS X x (upS X.K (wpS Z (.put o i v)))) h λtx y pos h=>xS_ (C:=λtx=>PS X (.Assign [tx] y pos) (upS X.K (wpS Z (.put o i v)))) (an h).2 λp q ps h2=>by
  have iq:=c7 Z i X q hX (an h2).2;refine b76 (c7 Z v X y hX (an (an h).1).1).v (c7 Z o X p hX (an h2).1).v iq.v (λw=>?_) (bz0 (an (an h).1).2) rfl;cases q<;>first|rfl|exact absurd rfl (iq.sl _ _ _ _)
 |.fldS o f v,X,x,hX,hf,h=>T1 (C:=λx=>PS X x (upS X.K (wpS Z (.fldS o f v)))) h λtx y pos h=>xA_ (C:=λtx=>PS X (.Assign [tx] y pos) (upS X.K (wpS Z (.fldS o f v)))) (an h).2 λp g ps h2=>by
  cases beq_iff_eq.1 (an h2).1;exact b20 (hX.cls _) (c7 Z v X y hX (an (an h).1).1).v (c7 Z o X p hX (an h2).2).v (J9 (an (an h).1).2)
 |.ex e,X,x,hX,hf,h=>sX_ (C:=λx=>PS X x (upS X.K (wpS Z (.ex e)))) h λx p h=>(by exact cn8 (c7 Z e X _ hX (an h).1).v (J9 (an h).2))
 |.iff c a b,X,x,hX,hf,h=>sI_ (C:=λx=>PS X x (upS X.K (wpS Z (.iff c a b)))) h λx p q ps h=>
  (by exact cs0 ((c7 Z c X _ hX (an (an h).1).1).t (an (an h).1).2) (D5 Z hm a X _ hX hf (an (an h).2).1) (D5 Z hm b X _ hX hf (an (an h).2).2))
 |.ret e,X,x,hX,hf,h=>sR_ (C:=λx=>PS X x (upS X.K (wpS Z (.ret e)))) h λx p h=>by
  cases x with
  |none=>exact(AK h).elim
  |some x=>exact b36 (c7 Z e X _ hX h).v
 |.retN,X,x,hX,hf,h=>sR_ (C:=λx=>PS X x (upS X.K (wpS Z .retN))) h λx p h=>by
  cases x with
  |some _=>exact(AK h).elim
  |none=>exact bw1
 |.for t it b,X,x,hX,hf,h=>sF_ (C:=λx=>PS X x (upS X.K (wpS Z (.for t it b)))) h λtg x p q ps h=>by
  cases q with
  |cons=>exact(AK h).elim
  |nil=>exact b57 hX.pass hX.calm (ah4 Z it X _ _ hX (an (an (an h).2).2).1) (ai8 hX.calm hX.nd (λ_=>hf) (an (an h).2).1) (D5 Z hm b X _ hX hf (an (an (an h).2).2).2) (ai4 (an (an (an h).2).2).1)
 |.while c b,X,x,hX,hf,h=>sW_ (C:=λx=>PS X x (upS X.K (wpS Z (.while c b)))) h λx p q ps h=>by
  cases q with
  |cons=>exact(AK h).elim
  |nil=>exact bq1 hX.pass ((c7 Z c X _ hX (an (an (an h).2).1).1).t (an (an (an h).2).1).2) (D5 Z hm b X _ hX hf (an (an h).2).2)
 |.dfn i np Nl cp b,X,x,hX,hf,h=>sD_ (C:=λx=>PS X x (upS X.K (wpS Z (.dfn i np Nl cp b)))) h λname args body dl rt tp scope ts bind p h=>by
  cases hp:U5 args with
  |none=>rw[hp]at h;exact(AK (an h).2).elim
  |some ps=>
   rw[hp]at h;obtain⟨z,j⟩:=an h;obtain⟨h0,j0⟩:=an (show(_&&_)=AB from j);obtain⟨h1,j1⟩:=an j0;obtain⟨h2,j2⟩:=an j1;obtain⟨h3,j3⟩:=an j2;obtain⟨h4,j4⟩:=an j3;obtain⟨h5,j5⟩:=an j4;clear h j j0 j1 j2 j3 j4;cases beq_iff_eq.1 h0;cases dl with
   |cons=>exact(AK z).elim
   |nil=>cases rt with
    |some=>exact(AK z).elim
    |none=>cases tp with
     |cons=>exact(AK z).elim
     |nil=>cases ts with
      |some=>exact(AK z).elim
      |none=>
       obtain⟨L,hc⟩:=hX.lam h4;obtain⟨a1,a2,a3,a4,a5⟩:=bg4 hp;exact cf6 hX.nd (beq_iff_eq.1 h1) (L9 h2) (hf _ (L9 h2) (nt h3)) a1 a2 a4 L (bw6 h5 hc (hm b scope Nl body (an j5).2 (nt (an j5).1)) (λname qual cl doc pm cv ct us hl=>a5 name qual _ scope cl doc pm cv ct us hl))
 |.dead,X,x,hX,hf,h=>λ_ _ _ _ _ _⟨_,_,_,_,_,ht,_⟩=>ht.elim
 |.pass,X,x,hX,hf,h=>sP_ (C:=λx=>PS X x (upS X.K (wpS Z .pass))) h λ_ _=>(by exact b13)
theorem D5(Z:Sg)(hm:∀(b:Ss)(sc:BB)(N:List Str)(l:List BV),mSs b sc N l=AB->N.contains n8=AH->Tbs.mt b sc N (.stmts l)):∀(l:Ss)(X:Cx)(xs:List BV),XOk Z X->HF X->mSs l X.env.scope X.N xs=AB->PSs X xs (upS X.K (d8 Z l))
 |.nil,X,xs,hX,hf,h=>by
  cases xs with
  |nil=>exact ce8
  |cons=>exact(AK h).elim
 |.cons s r,X,xs,hX,hf,h=>by
  cases xs with
  |nil=>exact(AK h).elim
  |cons x xs=>
   rw[d8];exact bv8 (ct4 Z hm s X _ hX hf (an h).1) (D5 Z hm r X _ hX hf (an h).2)
end
end Ek
namespace Ek
open PySem PySem.Spec PyProof.Rows L2
variable [Tbs]
variable{mg:Str->Option AG}{f c m:Str}{st:BV}{ps:List Str}{a:AI}{fd:Bi}{H:Hp}{X:Cx}
abbrev pq:E->Bool
 |.v _=>AB
 |.lst .nil=>AB
 |.len a=>pq a
 |.fld a _=>pq a
 |_=>AH
abbrev mPq(i:Nat)(e:E)(sc:BB)(N:List Str)(s:BV):Bool:=sA1 s λt x=>(mE e sc N x&&D9 x)&&xN t λy _=>(N[i]?==AA y)&&B9 sc y
abbrev mB:Ss->BB->List Str->List BV->Bool
 |.cons (.set i e) r,sc,N,s::l=>(pq e&&(mPq i e sc N s&&mB r sc N l))||mSs (.cons (.set i e) r) sc N (s::l)
 |b,sc,N,l=>mSs b sc N l
structure Stat0(st:BV)(d:Def)(ps:List Str):Prop where
 sc:FnScope d.N ps (j8 st)
 np:ps.length=d.np
 body:mB d.body (j8 st) d.N (u0 st)=AB
structure Stat(st:BV)(d:Def)(ps:List Str)(x f:Str):Prop extends Stat0 st d ps where
 bind:∀(kV doc pm:AG)(an:Option AI)(cdv ct:AG)(us:List AG),us.length=ps.length->EZ (EM x f (u7 st) (u0 st) (j8 st) .none kV doc pm an cdv ct) ⟨us,[]⟩=pure (ps.zip us)
structure FunD(K:AN)(x qual:Str)(st:BV)(f:AI)(fd:Bi):Prop where
 ex:∃(oc:AG)(od:Option AI)(dV kV doc pm:AG)(an:Option AI)(cdv ct:AG)(osl:Array (Option AG)),
  fd=EM x qual (u7 st) (u0 st) (j8 st) dV kV doc pm an cdv ct/\K.lookup f=AA ⟨oc,od,.func fd,osl⟩/\Du K cdv qual=AB
 kp:Bo K (.ref f)=AB
structure DefAt(K:AN)(f:Str)(d:Def)(a:AI)(fd:Bi)(ps:List Str):Prop where
 ex:∃(st:BV)(x:Str),FunD K x f st a fd/\Stat0 st d ps
 bd:l0 K fd ps []
 lam:d.N.contains n8=AB->∃c P,fd.code=.ref c/\Cb K c P=AB/\P∈Tbs.ps
structure DefOk(K:AN)(mg:Str->Option AG)(df:Option Int)(f:Str)(d:Def):Prop where
 ex:∃(a:AI)(fd:Bi)(ps:List Str),DefAt K f d a fd ps/\mg f=AA (.ref a)/\BH K AO f=AA (AA (.ref a))/\(∀i,df=AA i->∃tk,l0 K fd ps [.int i tk])
structure MthOk(K:AN)(mg:Str->Option AG)(df:Option Int)(c m:Str)(d:Def):Prop where
 ex:∃(Ca a:AI)(fd:Bi)(ps:List Str),DefAt K (c6 c m) d a fd ps/\BH K AO c=AA (AA (.ref Ca))/\mg c=AA (.ref Ca)/\Cls K Ca/\Meth K Ca m a/\(m="__init__"->Mk K Ca a)/\∀i,df=AA i->∃tk,l0 K fd ps [.int i tk]
 nom:BH K AO (c6 c m)=AA AC
theorem D4:∀{a b a' b':List Nat},(46:Nat)∉a'->(46:Nat)∉b'->a++46::b=a'++46::b'->a=a'/\b=b'
 |[],b,[],b',_,_,h=>⟨rfl,by simpa using h⟩
 |[],b,x::a',b',h1,_,h=>by
  simp only[Ed,El,Ax]at h;exact absurd (h.1▸Bl) h1
 |x::a,b,[],b',_,h2,h=>by
  simp only[Ed,El,Ax]at h;exact absurd (h.2▸BF _ Bl) h2
 |x::a,b,y::a',b',h1,h2,h=>by
  simp only[El,Ax]at h;obtain⟨e,f⟩:=D4 (λz=>h1 (BA _ z)) h2 h.2;exact⟨by rw[h.1,e],f⟩
def b69{K:AN}{df:Option Int}{h:Heap}{d:Def}{fa:AI}{od an:Option AI}{sl:Array (Option AG)}{oc kV dc pm cd ct:AG}(X:K.In h)(G:h.Ns AO mg)(S:Stat st d ps f f)
  (a1:BH K AO f=AA (AA (.ref fa))) (l1:K.lookup fa=AA ⟨oc,od,.func (EM f f (u7 st) (u0 st) (j8 st) .none kV dc pm an cd ct),sl⟩) (c1:Du K cd f=AB) (k1:Bo K (.ref fa)=AB)
  (m1:d.N.contains n8=AB->∃c P,cd=.ref c/\Cb K c P=AB/\P∈Tbs.ps:=by exact λh=>absurd h (by decide+kernel)) (hdf:df=AC:=by decide+kernel):DefOk K mg df f d:=
 ⟨fa,_,ps,⟨⟨st,f,⟨⟨_,_,_,_,_,_,_,_,_,_,rfl,l1,c1⟩,k1⟩,S.toStat0⟩,.all (S.bind kV dc pm an cd ct),m1⟩,HL X G a1,a1,λi h=>by rw[hdf]at h;cases h⟩
def ce3{K:AN}{h:Heap}{d:Def}{Ca fa:AI}{od an:Option AI}{sl:Array (Option AG)}{oc kV dc pm cd ct:AG}{df:Option Int}(X:K.In h)(G:h.Ns AO mg)(S:Stat st d ps m (c6 c m))
  (a0:BH K AO (c6 c m)=AA AC) (a1:BH K AO c=AA (AA (.ref Ca))) (hc:Cls K Ca) (hm:Meth K Ca m fa) (hi:m="__init__"->Mk K Ca fa)
  (l1:K.lookup fa=AA ⟨oc,od,.func (EM m (c6 c m) (u7 st) (u0 st) (j8 st) .none kV dc pm an cd ct),sl⟩) (c1:Du K cd (c6 c m)=AB)
  (m1:d.N.contains n8=AB->∃c P,cd=.ref c/\Cb K c P=AB/\P∈Tbs.ps:=by exact λh=>absurd h (by decide+kernel)) (hdf:df=AC:=by decide+kernel):MthOk K mg df c m d:=
 ⟨⟨Ca,fa,_,ps,⟨⟨st,m,⟨⟨_,_,_,_,_,_,_,_,_,_,rfl,l1,c1⟩,hm.kp⟩,S.toStat0⟩,.all (S.bind kV dc pm an cd ct),m1⟩,a1,HL X G a1,hc,hm,hi,λi h=>by rw[hdf]at h;cases h⟩,a0⟩
def DefAt.binds{K}{d}(D:DefAt K f d a fd ps):=D.bd
theorem DefAt.kp{K}{d}(D:DefAt K f d a fd ps):Bo K (.ref a)=AB:=by
 obtain⟨st,x,F,S⟩:=D.ex;exact F.kp
structure AllOk(Pr:Ah)(w:Aq)(K:AN)(mg:Str->Option AG)(P:f6)(G:Gs):Prop where
 fns:∀f d,P f=AA d->isM f=AH->DefOk K mg (p6 G.cls f) f d
 mts:∀f d,P f=AA d->isM f=AB->∃c m,f=c6 c m/\isM c=AH/\isM m=AH/\MthOk K mg (p6 G.cls (c6 c m)) c m d
 cls:∀f c Ca,BH K AO c=AA (AA (.ref Ca))->f∈G.cls c->Cls K Ca/\x9 K Ca f
 blt:∀b∈J8,mg b=AC
 tabs:∀g,G.tab g≠[]->GTab Pr w K mg g (G.tab g)
 cst:∀g d,G.cst g=AA d->∃u,mg g=AA u/\B4 K d u=AB
 isc:∀c∈G.cls "!is",∃Ca,mg c=AA (.ref Ca)/\IscOk K c Ca
 kt:Tbs.kt=(G.cls "!kt").isEmpty
def bn9:isM (c6 c m)=AB:=by
 unfold isM c6;simp
def bp8{c' m':Str}(h1:isM c'=AH)(h2:isM m'=AH)(h:c6 c m=c6 c' m'):c=c'/\m=m':=by
 unfold isM at h1 h2;unfold c6 at h;have h':=congrArg (λs:Str=>s.cps.toList) h;simp only[FJ,Bz,Hu]at h';have e:=D4 (by simpa using h1) (by simpa using h2) h';exact⟨by cases c;cases c';simpa using e.1,by cases m;cases m';simpa using e.2⟩
def AllOk.mth{Pr:Ah}{w:Aq}{K:AN}{P:f6}{G:Gs}(h:AllOk Pr w K mg P G){d:Def}(e:P (c6 c m)=AA d):MthOk K mg (p6 G.cls (c6 c m)) c m d:=by
 obtain⟨c',m',e',h1,h2,M⟩:=h.mts _ d e bn9;obtain⟨rfl,rfl⟩:=bp8 h1 h2 e';exact M
def bh1{K}{d}{ds}{vs}(r:IsDs K H ds vs):RelE K H (X3 d ds) (L2.r8 d.N vs):=an6 r
def ar0{pins:List (AI×Obj)}{σ:L2.St}{s:AL}(I:L2.Inv X pins σ H s)(hfn:∀x,X.fn x=AB)(g k:Str->Bool)(e:AG->AL->Prop):L2.Inv {X with fn:=g,ow:=k,xe:=e} pins σ H s:=
 ⟨⟨I.ok.mod,I.ok.kind,I.ok.glob,I.ok.blt,I.ok.above,I.ok.inj,I.ok.has,λx c _ h=>I.ok.cab x c (.inl (hfn x)) h,I.ok.hd,I.ok.frames,I.ok.stk,I.ok.exf,I.ok.bs,I.ok.bsz,I.ok.noex,I.ok.exfs,I.ok.funs,I.ok.frf⟩,I.os,I.bare,I.base,I.loc,I.cell,I.free,
  λx c h=>.inl ((I.freeC x c h).resolve_right λz=>by rw[hfn x]at z;exact absurd z.1 ∅),I.pin,I.hok,I.len⟩
abbrev Cxa(X:Cx):Cx:={X with fn:=λ_=>AB}
def P5{pins:List (AI×Obj)}{σ:L2.St}{s:AL}(I:L2.Inv (Cxa X) pins σ H s):L2.Inv X pins σ H s:=ar0 I (λ_=>rfl) X.fn X.ow X.xe
abbrev C3(X:Cx)(l:List BV)(t:TS):Prop:=∀(pins:List (AI×Obj))(s:AL)(σ:L2.St)(H:Hp)(D:Ends),Inv (Cxa X) pins σ H s->t D σ H->AV (model X.prog X.w) X.A (execs l X.env) (SP X pins D) X.xe s
def C3.cons{x:BV}{d7:List BV}{t u:DS}(h1:PS (Cxa X) x (upS X.K t))(h2:C3 X d7 (upS X.K u)):C3 X (x::d7) (upS X.K λF env st=>t {F with nx:=u F} env st):=by
 intro pins s σ H D I h;obtain⟨env,st,Fd,hE,hS,ht,hq⟩:=h;refine KF (thn (h1 pins s σ H {D with nx:=λσ' H'=>∃env' st',RelE X.K H' env' σ'/\RelS X.K st' H'/\u Fd env' st'/\EndsR X.K st' H' Fd D} I ⟨env,st,_,hE,hS,ht,⟨λenv' σ' H' st' ev hE' hS' q=>⟨env',st',hE',hS',q,hq.after ev⟩,hq.bk,hq.ct,hq.rt⟩⟩) λf s1 q=>?_);cases f with
 |next=>
  obtain⟨σ',H',I',env',st',e1,e2,e3,e4⟩:=q;exact h2 pins s1 σ' H' D I' ⟨env',st',Fd,e1,e2,e3,e4⟩
 |ret v=>obtain⟨v',σ',H',I',q⟩:=q;exact⟨v',σ',H',P5 I',q⟩
 |brk=>obtain⟨σ',H',I',q⟩:=q;exact⟨σ',H',P5 I',q⟩
 |cont=>obtain⟨σ',H',I',q⟩:=q;exact⟨σ',H',P5 I',q⟩
theorem ak4(Z:Sg){X:Cx}(hX:XOk Z X):∀(e:E)(x:AR),pq e=AB->mE e X.env.scope X.N x=AB->Snd Z (Cxa X) e x
 |.v i,x,_,h=>xN_ (C:=Snd Z (Cxa X) (.v i)) h λy p h=>Snd.pl (by exact a51 (X:=Cxa X) (beq_iff_eq.1 (an h).1) (ag5 (an (an h).2).1) (u5 (an (an h).2).2).1 (u5 (an (an h).2).2).2) rfl
 |.lst .nil,x,_,h=>xL_ (C:=Snd Z (Cxa X) (.lst .nil)) h λl p h=>by
  cases l with
  |nil=>exact Snd.pl (by exact a62 (X:=Cxa X) ag1 (Ao _)) rfl
  |cons a l=>exact absurd (an h).1 AK
 |.len a,x,hq,h=>w6 (C:=Snd Z (Cxa X) (.len a)) h λq p ps h1 h2=>
  have ia:=ak4 Z hX a _ hq h2
  Snd.pl (by exact a56 (X:=Cxa X) (l6 h1) (hX.blt' _) ia.v ia.st) rfl
 |.fld a f,x,hq,h=>xA_ (C:=Snd Z (Cxa X) (.fld a f)) h λo g ap h=>by
  cases beq_iff_eq.1 (an h).1;exact Snd.pl (by exact a55 (X:=Cxa X) (C:=Z.C) (λc Ca=>hX.cls _ c Ca) (ak4 Z hX a _ hq (an (an h).2).2).v (v7 (D8 (an (an h).2).1))) rfl
theorem ba0(Z:Sg)(hm:∀(b:Ss)(sc:BB)(N:List Str)(l:List BV),mSs b sc N l=AB->N.contains n8=AH->Tbs.mt b sc N (.stmts l)){X:Cx}(hX:XOk Z X)(hF:HF X):∀(l:Ss)(xs:List BV),mB l X.env.scope X.N xs=AB->C3 X xs (upS X.K (d8 Z l))
 |.nil,xs,h=>λpins s σ H D I q=>D5 Z hm .nil X xs hX hF h pins s σ H D (P5 I) q
 |.cons x r,xs,h=>by
  have old:mSs (.cons x r) X.env.scope X.N xs=AB->C3 X xs (upS X.K (d8 Z (.cons x r))):=λh pins s σ H D I q=>D5 Z hm (.cons x r) X xs hX hF h pins s σ H D (P5 I) q;cases x with
  |set i e=>
   cases xs with
   |nil=>exact old h
   |cons s l=>
    rcases Bool.or_eq_true_iff.mp (show((pq e&&(mPq i e X.env.scope X.N s&&mB r X.env.scope X.N l))||mSs (.cons (.set i e) r) X.env.scope X.N (s::l))=AB from h)with h|h
    ·have h':=an (an h).2;refine T1 (C:=λs=>C3 X (s::l) (upS X.K (d8 Z (.cons (.set i e) r)))) h'.1 λt x p h1=>xN_ (C:=λt=>C3 X (.Assign [t] x p::l) (upS X.K (d8 Z (.cons (.set i e) r)))) (an h1).2 λy py h2=>?_;exact C3.cons (t:=wpS Z (.set i e)) (ag2 (X:=Cxa X) hX.nd (beq_iff_eq.1 (an h2).1) (L9 (an h2).2) (ak4 Z hX e x (an h).1 (an (an h1).1).1).v (J9 (an (an h1).1).2) (.inl rfl)) (ba0 Z hm hX hF r l h'.2)
    ·exact old h
  |_=>exact old h
abbrev cxF(P:Ah)(w:Aq)(K:AN)(mg:Str->Option AG)(base:Heap)(N:List Str)(qual:Str)(scope:BB)(f:AI)(cd:AG)(A:BP)(outer:List Env)(s:AL)(H:Hp):Cx:=
 {Z4 CX0 P w K mg base N qual scope f cd A outer s H E0 with fn:=λy=>!(N.contains (p9 y)),ow:=λ_=>AB,xe:=λ_ _=>False}
def cc1{P:Ah}{w:Aq}{K:AN}{base:Heap}{k:Nat}{f:AI}{x qual:Str}{N:List Str}{sp:Sp}(F:FunD K x qual st f fd)(S:FnScope N ps (j8 st))
  (len:∀vs H Q E,sp vs H Q E->vs.length=ps.length)
  (hbody:∀(A:BP)(outer:List Env)(s:AL)(H:Hp)(vs:List V)(Q:VK)(E:XK),Room k (A.deeper (HC qual (j8 st) s.heap.objs.size f fd.code))->sp vs H Q E ->
   ∃t,C3 (cxF P w K mg base N qual (j8 st) f fd.code A outer s H) (u0 st) t/\t {nx:=λ_ H'=>Q .non H',rt:=Q} (L2.r8 N vs) H) :
  FnOk P w K mg base CX0 (k+1) f fd ps sp:=by
 obtain⟨oc,od,dV,kV,doc,pm,an,cdv,ct,osl,rfl,lk,hcd⟩:=F.ex;refine⟨len,λA outer s H args us vs Q E hr e0 hb r hsp=>?_⟩;have hl:=len _ _ _ _ hsp;have KX:K.In s.heap:=e0.mod.kin.keeps λb o e=>(e0.bs b o e).1;have lim:s.heap.NoLimit:=e0.mod.nolimit.keeps λb o e=>(e0.bs b o e).1;have hkind:∀y∈ps.zip us,(j8 st).names.lookup y.1=AA .local\/((j8 st).names.lookup y.1=AA .cell/\((KM (s.heap.objs.size+1) (j8 st).names []).lookup y.1).isSome=AB):=λ⟨n,v⟩hy=>by
  rcases S.par n (GU hy).1 with q|q
  ·exact .inl q
  ·exact .inr ⟨q,Ja _ _ _ (.inl q)⟩
 refine codeAny_call_function hr.depth (KX _ _ lk) rfl S.co S.gen rfl (W.codeRec_of KX hcd) (hb _ _ _ _ ?_);refine wpAny_newFunctionEnv_cells S.kind hkind λenv he s1 x=>?_;subst he;refine⟨lim.keeps x.toInCall.keep,codeAny_func ?_⟩;obtain⟨t,ht,hq⟩:=hbody A outer s H vs Q E (hr.deeper _) hsp;have I0:Inv (Z4 CX0 P w K mg base N qual (j8 st) f cdv A outer s H E0) [] (L2.r8 N vs) H s1:=bh3 S hr.hd e0 hl r x;have I:Inv (Cxa (cxF P w K mg base N qual (j8 st) f cdv A outer s H)) [] (L2.r8 N vs) H s1:=ar0 I0 (λ_=>rfl) _ _ _;refine Bf (ht [] s1 (L2.r8 N vs) H _ I hq) (λfl s' hs=>?_) λe s' hs=>AT hs;have fin:∀{σ':L2.St}{H':Hp}{v:V}{u:AG},Inv (cxF P w K mg base N qual (j8 st) f cdv A outer s H) [] σ' H' s'->c8 v u->Q v H'->CE outer P w H s Q u s':=
  λ{σ' H' v u}J rv q=>⟨v,H',J.os,J.bare,J.base,J.hok,rv,q⟩
 cases fl with
 |ret u=>
  obtain⟨v,σ',H',J,rv,q⟩:=hs;exact fin J rv q
 |next=>
  obtain⟨σ',H',J,q⟩:=hs;exact fin (v:=V.non) (u:=Bh) J rfl q
 |brk=>
  obtain⟨_,_,_,q⟩:=hs;exact AT q
 |cont=>
  obtain⟨_,_,_,q⟩:=hs;exact AT q
section
variable {Pr:Ah} {w:Aq} {K:AN} {base:Heap} {P:f6} {G:Gs}
structure LvOk(Pr:Ah)(w:Aq)(K:AN)(mg:Str->Option AG)(base:Heap)(P:f6)(G:Gs)(n:Nat):Prop where
 fn:∀m,m<=n->∀(f:Str)(d:Def),P f=AA d->∀(a:AI)(fd:Bi)(ps:List Str),DefAt K f d a fd ps->FnOk Pr w K mg base CX0 m a fd ps (t4 K (sem P G m f))
 clo:∀np N b cs fa fd ps,CloF fd np N ps b->FnOk Pr w K mg base CX0 n fa fd ps (R6 K fa fd np N cs (B8 P G n np N b cs))
@[reducible]noncomputable def Zl(P:f6)(G:Gs)(n:Nat):Sg:=⟨λf=>(P f).isSome,sem P G n,G.tab,G.cls,(o9 P G n).2.1,λf=>(o9 P G n).2.2.1&&(P f).isSome,B8 P G n,G.cst⟩
def a59{n:Nat}(hA:AllOk Pr w K mg P G)(L:LvOk Pr w K mg base P G n)(e1:X.prog=Pr)(e2:X.w=w)(e3:X.K=K)(e4:X.mg=mg)(e5:X.base=base)(hr:Room n X.A)(calm:X.calm=AB)(xe:X.xe=λ_ _=>False)(nd:X.N.Nodup)
  (lam:X.N.contains n8=AB->LamOk X/\∀x,X.N.contains (p9 x)=AB->X.fn x=AH/\X.ow x=AB)
  (mt:∀b sc N fb,mFB b sc N fb->Tbs.mt b sc N fb):XOk (Zl P G n) X where
 calm:=calm
 xe:=xe
 units:=by have:=hr.un;lia
 nd:=nd
 blt:=by rw[e4];exact hA.blt
 fns:=λg hi hg=>by
  obtain⟨dg,hdg⟩:=BN.mp hg;obtain⟨ag,fdg,pg,Dg,mgg,nsg,_⟩:=(hA.fns g dg hdg hi).ex;refine⟨n,ag,fdg,pg,?_,hr,by rw[e4];exact mgg,by rw[e3];exact Dg.kp,by rw[e3];exact Dg.binds,by rw[e3];exact nsg⟩;rw[e1,e2,e3,e4,e5];exact L.fn n (AW _) g dg hdg ag fdg pg Dg
 fnd:=λg i hi hg hd=>by
  obtain⟨dg,hdg⟩:=BN.mp hg;obtain⟨ag,fdg,pg,Dg,mgg,nsg,hb⟩:=(hA.fns g dg hdg hi).ex;obtain⟨tk,hb⟩:=hb i hd;refine⟨n,ag,fdg,pg,tk,?_,hr,by rw[e4];exact mgg,by rw[e3];exact Dg.kp,by rw[e3];exact hb⟩;rw[e1,e2,e3,e4,e5];exact L.fn n (AW _) g dg hdg ag fdg pg Dg
 nom:=λg ga hg hn=>by
  obtain⟨dg,hdg⟩:=BN.mp hg;cases e:isM g with
  |false=>rfl
  |true=>
   obtain⟨c,m,rfl,_,_,M⟩:=hA.mts g dg hdg e;rw[e3,M.nom]at hn;cases hn
 cls:=by rw[e3];exact hA.cls
 mth:=λm c Ca hc hg=>by
  obtain⟨dg,hdg⟩:=BN.mp hg;obtain⟨Ca',ag,fdg,pg,Dg,nsc,mgc,C1,M1,I1,_⟩:=(hA.mth hdg).ex;rw[e3,nsc]at hc;cases hc;refine⟨n,ag,fdg,pg,by rw[e3];exact C1,by rw[e3];exact M1,?_,hr,by rw[e3];exact Dg.binds⟩;rw[e1,e2,e3,e4,e5];exact L.fn n (AW _) _ dg hdg ag fdg pg Dg
 mthd:=λm c Ca i hc hg hi=>by
  obtain⟨dg,hdg⟩:=BN.mp hg;obtain⟨Ca',ag,fdg,pg,Dg,nsc,mgc,C1,M1,I1,D1⟩:=(hA.mth hdg).ex;rw[e3,nsc]at hc;cases hc;obtain⟨tk,hb⟩:=D1 i hi;refine⟨n,ag,fdg,pg,tk,by rw[e3];exact C1,by rw[e3];exact M1,?_,hr,by rw[e3];exact hb⟩;rw[e1,e2,e3,e4,e5];exact L.fn n (AW _) _ dg hdg ag fdg pg Dg
 mks:=λc hg=>by
  simp only[BI]at hg;obtain⟨dg,hdg⟩:=BN.mp hg.2;obtain⟨Ca',ag,fdg,pg,Dg,nsc,mgc,C1,M1,I1,_⟩:=(hA.mth hdg).ex;cases n with
  |zero=>exact absurd hg.1 AK
  |succ m=>
   refine⟨Ca',m,ag,fdg,pg,by rw[e3];exact nsc,by rw[e3];exact I1 rfl,?_,hr,by rw[e4];exact mgc,by rw[e3];exact Dg.binds⟩;rw[e1,e2,e3,e4,e5];exact L.fn m (Ic _) _ dg hdg ag fdg pg Dg
 tabs:=by rw[e1,e2,e3,e4];exact hA.tabs
 cst:=by rw[e3,e4];exact hA.cst
 isc:=by rw[e3,e4];exact hA.isc
 kt:=hA.kt
 lam:=lam
 mtE:=λe sc N x h1 h2=>mt _ _ _ _ ⟨h2,e,rfl,h1⟩
 clo:=λnp N b cs fa fd ps cf=>⟨n,by rw[e1,e2,e3,e4,e5];exact L.clo np N b cs fa fd ps cf,hr⟩
def b11:LvOk Pr w K mg base P G 0:=by
 refine⟨λm hm f d hf a fd ps D=>?_,λnp N b cs fa fd ps cf=>?_⟩
 ·obtain rfl:m=0:=by lia
  have no:∀vs H Q E,¬t4 K (sem P G 0 f) vs H Q E:=λvs H Q E h=>by
   obtain⟨ds,s0,Qd,_,_,h,_⟩:=h;exact h
  exact⟨λvs H Q E h=>absurd h (no vs H Q E),λA outer s H args us vs Q E _ _ _ _ h=>absurd h (no vs H Q E)⟩
 ·have no:∀vs H Q E,¬R6 K fa fd np N cs (B8 P G 0 np N b cs) vs H Q E:=λvs H Q E h=>by
   obtain⟨us0,ds,st,Qd,_,_,_,_,h,_⟩:=h;exact h
  exact⟨λvs H Q E h=>absurd h (no vs H Q E),λA outer s H args us vs Q E _ _ _ _ h=>absurd h (no vs H Q E)⟩
def bz1{n:Nat}(hA:AllOk Pr w K mg P G)(hb0:N5 mg base)(hK0:K.In base)(mt:∀b sc N fb,mFB b sc N fb↔Tbs.mt b sc N fb)(L:LvOk Pr w K mg base P G n):LvOk Pr w K mg base P G (n+1):=by
 have hmS:∀(b:Ss)(sc:BB)(N:List Str)(l:List BV),mSs b sc N l=AB->N.contains n8=AH->Tbs.mt b sc N (.stmts l):=λb sc N l h1 h2=>(mt _ _ _ _).mp ⟨h2,h1⟩;refine⟨λm hm f d hf a fd ps D=>?_,λnp N b cs fa fd ps cf=>?_⟩
 ·by_cases hmn:m<=n
  ·exact L.fn m hmn f d hf a fd ps D
  obtain rfl:m=n+1:=by lia
  obtain⟨st,x,F,S⟩:=D.ex;refine cc1 F S.sc (λvs H Q E h=>?_) (λA outer s H vs Q E hr h=>?_)
  ·obtain⟨ds,s0,Qd,is,_,hs,_⟩:=h;obtain⟨d',hd',hl,_⟩:=hs;rw[hf]at hd';cases hd';rw[<-is.len,hl,S.np]
  ·obtain⟨ds,s0,Qd,is,rs,hs,hq⟩:=h;obtain⟨d',hd',hl,hb⟩:=hs;rw[hf]at hd';cases hd';have hX:XOk (Zl P G n) (cxF Pr w K mg base d.N f (j8 st) a fd.code A outer s H):=a59 hA L rfl rfl rfl rfl rfl hr rfl rfl S.sc.nd (λhl=>by
    obtain⟨c,P',e1,e2,e3⟩:=D.lam hl;refine⟨⟨⟨c,P',e1,Kh hK0 e2,e3⟩,hb0⟩,λx hx=>⟨?_,rfl⟩⟩;show(!(d.N.contains (p9 x)))=AH;have hx':d.N.contains (p9 x)=AB:=hx;rw[hx'];rfl) λb sc N fb=>(mt b sc N fb).mp
   have hF:HF (cxF Pr w K mg base d.N f (j8 st) a fd.code A outer s H):=λy _ hy=>.inl (by
    show(!(d.N.contains (p9 y)))=AB;have hy':d.N.contains (p9 y)=AH:=hy;rw[hy'];rfl)
   refine⟨_,ba0 _ hmS hX hF d.body _ S.body,X3 d ds,s0,_,bh1 is,rs,hb,λenv σ H' st' ev hE hS q=>?_,λenv σ H' st' ev hE hS q=>q.elim,λenv σ H' st' ev hE hS q=>q.elim,λv e H' st' ev is' rs' q=>?_⟩
   ·obtain⟨s2,sub,q⟩:=q;exact hq _ .non H' s2 (ev.drop sub) .non (hS.sub sub) q
   ·obtain⟨s2,sub,q⟩:=q;exact hq v e H' s2 (ev.drop sub) is' (rs'.sub sub) q
 ·refine ce9 (Z:=Zl P G n) cf λq A outer s H hr=>?_;obtain⟨hnl,hfb⟩:=(mt _ _ _ _).mpr cf.mt;have hX:XOk (Zl P G n) (cxC Pr w K mg base N fd.scope fd.closure q fa fd.code A outer s H):=a59 hA L rfl rfl rfl rfl rfl hr rfl rfl cf.sc.nd (λhl=>by
   have hl':N.contains n8=AB:=hl;rw[hnl]at hl';cases hl') λb sc N fb=>(mt b sc N fb).mp
  have hF:HF (cxC Pr w K mg base N fd.scope fd.closure q fa fd.code A outer s H):=λy hy _=>by
   have hy':fd.scope.names.lookup y=AA .local\/fd.scope.names.lookup y=AA .cell:=hy
   rcases hy' with z|z
   ·exact .inr z
   ·exact absurd rfl (cf.sc.nocell _ (PySem.mem_of_lookup z))
  cases hb:fd.body with
  |stmts l=>rw[hb]at hfb;exact D5 _ hmS b _ l hX hF hfb
  |expr x=>
   rw[hb]at hfb;obtain⟨e,rfl,he⟩:=hfb;exact⟨e,rfl,(c7 _ e _ x hX he).v⟩
theorem a47(hA:AllOk Pr w K mg P G)(hb0:N5 mg base)(hK0:K.In base)(mt:∀b sc N fb,mFB b sc N fb↔Tbs.mt b sc N fb):∀n,LvOk Pr w K mg base P G n
 |0=>b11
 |n+1=>bz1 hA hb0 hK0 mt (a47 hA hb0 hK0 mt n)
end
abbrev st0(a:AI)(ns:List Int):Sto:=λb=>if b=a then AA (.fro (ns.map D.int))else AC
theorem ao8{K}:∀ns:List Int,IsDs K H (ns.map D.int) (ns.map V.int)
 |[]=>.nil
 |n::r=>.cons (.int n) (ao8 r)
abbrev L4(K:AN):Bool:=K.all λp=>!(p.2.cls==.type "list")
def an7{K}{o}(h:L4 K=AB)(e:K.lookup a=AA o):o.cls≠.type "list":=by
 unfold L4 at h;rw[DY]at h;have hm:(a,o)∈K:=by
  induction K with
  |nil=>cases e
  |cons p r ih=>
   obtain⟨b,x⟩:=p;rw[EE]at e;cases q:a==b with
   |true=>simp_all
   |false=>rw[q]at e;exact BA _ (ih (λp hp=>h p (BA _ hp)) e)
 have:=h _ hm;simpa using this
end Ek
namespace Ek
open PySem PySem.Spec PyProof.Rows L2
def bj9{P:Ah}{w:Aq}{K:AN}{mg mb:Str->Option AG}{k:Nat}{fa a:AI}{fd:Bi}{x:Str}{sp:Sp}{s₁:AL}{vs:List AG}{ns:List Int}{ts:List AI}
  (KX:K.In s₁.heap) (hns:s₁.heap.Ns AO mg) (hb:s₁.heap.Ns Cq mb) (hbb:∀x:Str,x≠"__name__"->mb x=BK x) (hlim:s₁.heap.NoLimit) (hbm:N5 mg s₁.heap) (hg:s₁.gens=#[])
  (ha:s₁.heap.get? a=AA {cls:=.type "list",data:=.seq vs.toArray}) (hi:CL vs ns) (hl:ns.length<=sizeLine) (hr:Room k HW)
  (hT:∀P∈ts,s₁.heap.get? P=AA (HQ #[])/\isCodeTable s₁.heap P) (hKt:∀P∈ts,K.lookup P=AC) (hKa:K.lookup a=AC)
  (F:∀base:Heap,K.In base->base.Ns AO mg->N5 mg base->FnOk P w K mg base CX0 k fa fd [x] sp) (hbind:Ib s₁ fd ⟨[.ref a],[]⟩ [(x,.ref a)])
  (hsp:∀H:Hp,(∀P∈ts,H P=AA (.tbl #[]))->SqL K H a (ns.map V.int)->sp [.ref a] H (λv _=>v=.bl AB) λ_ _ _=>False) :
  Dw (model P w) HW (.call (.ref fa) ⟨[.ref a],[]⟩) (λr s'=>r=.ok (.ret (.bool AB))/\OldK s₁.heap s'.heap/\s'.os=s₁.os/\Ge s'.gens) s₁:=by
 have rv:=ap3 hi;have naT:a∉ts:=λz=>by
  have:=(hT a z).1;rw[ha]at this;cases this
 let H:Hp:=λb=>if b=a then AA (.frz {cls:=.type "list",data:=.seq vs.toArray} (.lst (ns.map V.int)))else if b∈ts then AA (.tbl #[])else AC
 have Ha:H a=AA (.frz {cls:=.type "list",data:=.seq vs.toArray} (.lst (ns.map V.int))):=if_pos rfl;have Ht:∀P∈ts,H P=AA (.tbl #[]):=λP hP=>by
  have ne:P≠a:=λz=>naT (z▸hP);show(if P=a then _ else if P∈ts then _ else _)=_;rw[if_neg ne,if_pos hP]
 have Hc:∀b u,H b=AA u->b=a\/b∈ts:=λb u e=>by
  by_cases h1:b=a
  ·exact .inl h1
  ·by_cases h2:b∈ts
   ·exact .inr h2
   ·have e':(if b=a then AA (HO.frz {cls:=.type "list",data:=.seq vs.toArray} (.lst (ns.map V.int)))else if b∈ts then AA (.tbl #[])else AC)=AA u:=e;rw[if_neg h1,if_neg h2]at e';cases e'
 have hok:HOk P w H s₁.heap:=λb u e=>by
  rcases Hc b u e with rfl|hb
  ·rw[Ha]at e;cases e;exact⟨ha,by rw[AX];exact hl,vs,_,rv,ha⟩
  ·rw[Ht b hb]at e;cases e;exact(hT b hb).1
 have v7:∀{b:AI}{o:Obj},s₁.heap.get? b=AA o->H b=AC->(z9 s₁.heap H).get? b=AA o:=λe n=>bl7 e n;have none_of:∀b o,s₁.heap.get? b=AA o->(∀xs n,o.data≠.seq xs n)->(∀xs,o.data≠.fields xs)->H b=AC:=λb o e n1 n2=>by
  cases q:H b with
  |none=>rfl
  |some u=>
   rcases Hc b u q with rfl|hb
   ·rw[ha]at e;cases e;exact absurd rfl (n1 _ _)
   ·rw[(hT b hb).1]at e;cases e;exact absurd rfl (n2 _)
 have nsK:∀{b:AI}{m:Str->Option AG},s₁.heap.Ns b m->(z9 s₁.heap H).Ns b m:=λ{b m}⟨o,es,ep,e,d,r⟩=>⟨o,es,ep,v7 e (none_of b o e (by rw[d];exact λ_ _=>nofun) (by rw[d];exact λ_=>nofun)),d,r⟩;have hKb:K.In (z9 s₁.heap H):=λb o e=>v7 (KX b o e) (by
  cases q:H b with
  |none=>rfl
  |some u=>
   rcases Hc b u q with rfl|hb
   ·rw[hKa]at e;cases e
   ·rw[hKt b hb]at e;cases e)
 have hBb:N5 mg (z9 s₁.heap H):=by
  obtain⟨bm,ob,b1,b2,b3,b4,b5,b6⟩:=hbm;exact⟨bm,ob,b1,b2,v7 b3 (none_of bm ob b3 (by rw[b6];exact λ_ _=>nofun) (by rw[b6];exact λ_=>nofun)),b4,b5,b6⟩
 have hM:Mod K mg (z9 s₁.heap H):=⟨hKb,nsK hns,⟨mb,nsK hb,hbb⟩,let⟨mc,h1,h2⟩:=hlim;⟨mc,nsK h1,h2⟩⟩;have e0:Env0 P w K mg (z9 s₁.heap H) HW [] s₁ H:=⟨rfl,hM,λb o e=>bt1 e,KJ (bj2 _ _),trivial,λb hb=>absurd (show b∈([]:List AI) from hb) ∎,hok,.of_eq hg⟩;refine Dd ((F _ hKb (nsK hns) hBb).run HW [] s₁ H ⟨[.ref a],[]⟩ [.ref a] [.ref a] _ _ hr e0 hbind (.cons rfl .nil) (hsp H Ht (.inl (.inr ⟨_,Ha⟩)))) λr s' h=>?_;cases r with
 |error e=>exact AT h
 |ok fl=>
  cases fl with
  |next=>exact AT h
  |brk=>exact AT h
  |cont=>exact AT h
  |ret u=>
   obtain⟨v,H',os,bare,un,hok',r',q⟩:=h;have q':v=.bl AB:=q;subst q';obtain rfl:u=FS AB:=r';refine⟨rfl,⟨λb o e=>?_,λb o e=>un.there b o e ∎⟩,os,bare⟩;cases q:H b with
   |none=>exact .inl (un.keep b o e q (by intro z;exact absurd (show b∈([]:List AI) from z) ∎) ∎)
   |some u=>
    rcases Hc b u q with rfl|hb
    ·rw[Ha]at q;cases q;have z2:=un.frzs b _ _ Ha;obtain⟨e2,_⟩:=hok' b _ z2;rw[ha]at e;cases e;exact .inl e2
    ·obtain⟨t1,t2⟩:=hT b hb;rw[t1]at e;cases e;obtain⟨more,z⟩:=un.tbls b _ (Ht b hb);have e2:=hok' b _ z;exact .inr (.inl ⟨t2,rfl,#[],more,rfl,e2⟩)
def bc3 [Tbs]{K}{h}{a}{o}(X:K.In h)(hn:L4 K=AB)(e:h.get? a=AA o)(hc:o.cls=.type "list"):K.lookup a=AC:=by
 cases q:K.lookup a with
 |none=>rfl
 |some o'=>
  have:=X a o' q;rw[e]at this;cases this;exact absurd hc (an7 hn q)
def bv6{l:W.OpenLaw}{q:Ah}{loose:List Str}{XP:(Str->Option AG)->Heap->Prop}{YP:Aq->Heap->Prop}{d:DefRec}{K:Params->AN}{P:f6}{G:Gs}{n:Nat}{x:Str}{dl:Def}{ts:List AI}
  (hn:l.most=AA 63) (hdf:d.params.defaults=[]) (hdn:d.name="law") (hr:Room n HW) (hY:∀(w:Aq)(h:Heap),YP w h->(K w.params).In h/\∀P∈ts,h.get? P=AA (HQ #[])) (hl:P "law"=AA dl)
  (hst:∀st ps,Stat0 st dl ps->ps=[x])
  (F:∀(w:Aq)(mg:Str->Option AG)(h:Heap),(K w.params).In h->h.Ns AO mg->(letI:Tbs:=⟨ts,mFB,(G.cls "!kt").isEmpty⟩;AllOk l.prog w (K w.params) mg P G)/\L4 (K w.params)=AB/\Ip (K w.params)=AB/\∀P∈ts,∃c,Cb (K w.params) c P=AB)
  (core:∀(a:AI)(ns:List Int),ns.length<=63->sem P G n "law" [.ref a] (st0 a ns) λd _=>d=.bl AB) :
  W.WalkO q loose XP YP l.row.toRowW d [] (λf vs=>PySem.call f vs):=by
 letI:Tbs:=⟨ts,mFB,(G.cls "!kt").isEmpty⟩
 refine Att.attach_call hn hdf λw s₀ s₁ mg mb fa o pm cd doc a vs ns GG Y ho hd hcd hmg hobj hints hlen hg=>?_;obtain⟨KX,hTs⟩:=hY w _ Y;obtain⟨hA,hNL,hNT,hC⟩:=F w mg _ KX GG.T.g;obtain⟨ad,fd,ps,Df,mf,_,_⟩:=(hA.fns "law" dl hl (by decide+kernel)).ex;obtain⟨st,y,Ff,Sf⟩:=Df.ex;have e:=hst st ps Sf;subst e;rw[hdn]at hmg;have ea:fa=ad:=by rw[hmg]at mf;cases mf;rfl
 subst ea;have hKa:(K w.params).lookup a=AC:=bc3 KX hNL hobj rfl;refine bj9 (ts:=ts) (sp:=t4 (K w.params) (sem P G n "law")) KX GG.T.g GG.T.b GG.T.builtins GG.T.nolimit GG.T.bmain hg hobj hints (Ay hlen ∅) hr (λP hP=>⟨hTs P hP,?_⟩) (λP hP=>?_) hKa (λbase hb hbg hbm=>(a47 hA hbm hb (λ_ _ _ _=>Iff.rfl) n).fn n (AW _) "law" dl hl fa fd [x] Df) (Df.bd _ [.ref a] KX rfl) (λH hH hS=>?_)
 ·obtain⟨c,hc⟩:=hC P hP;exact((Kh KX hc).tab (hTs P hP)).isCodeTable
 ·cases qq:(K w.params).lookup P with
  |none=>rfl
  |some o'=>
   have z:=KX P o' qq;rw[hTs P hP]at z;cases z;unfold Ip at hNT;rw[DY]at hNT;exact absurd (hNT _ (W.mem_of_lookupK qq)) AK
 ·refine⟨[.ref a],st0 a ns,_,.cons (.ref a) .nil,⟨λb o e=>?_,λP hP=>⟨#[],hH P hP,trivial,λpos cv z=>by cases z⟩⟩,core a ns hlen,λv d' H' st' ev is rs q=>?_⟩
  ·unfold st0 at e
   split at e
   ·rename_i hb;cases e;subst hb
    rcases hS with hS|⟨ob,its,m,hk,hc,_⟩
    ·exact⟨_,hS,ao8 ns⟩
    ·exact absurd hc (an7 hNL hk)
   ·cases e
  ·have q':d'=.bl AB:=q;subst q';cases is;rfl
abbrev bx5(P:AI)(o:Obj):Bool:=match o with
 |⟨.type "code",_,.fields vs,_⟩=>(match(vs[11]?:Option AG)with|some (.ref P')=>P'==P|_=>AH)
 |_=>AH
abbrev al3(K:AN)(ts:List AI):Bool:=ts.all λP=>match K.find? λp=>bx5 P p.2 with
 |some p=>Cb K p.1 P
 |none=>AH
def bv5{K}{ts}(h:al3 K ts=AB):∀P∈ts,∃c,Cb K c P=AB:=λP hP=>by
 unfold al3 at h;rw[DY]at h;have:=h P hP
 split at this
 ·exact⟨_,this⟩
 ·cases this
abbrev aj2(K:AN)(cd:AG):Option (AI×AI):=match cd with
 |.ref c=>(match K.lookup c with
  |some ⟨_,_,.fields vs,_⟩=>(match(vs[11]?:Option AG)with|some (.ref P)=>AA (c,P)|_=>AC)
  |_=>AC)
 |_=>AC
def cd1{K}{cd}{c P}{ts:List AI}(h:aj2 K cd=AA (c,P))(h2:Cb K c P=AB)(h3:ts.contains P=AB):∃c P,cd=.ref c/\Cb K c P=AB/\P∈ts:=by
 unfold aj2 at h
 split at h
 ·split at h
  ·split at h
   ·cases h;exact⟨_,_,rfl,h2,by simp_all⟩
   ·cases h
  ·cases h
 ·cases h
end Ek
namespace Ek
open PySem L2
def ac3 s:AZ s=⟨(s.toList.map Fh).toArray⟩:=by
 unfold AZ;rw[cpsOfBytes_string]
def bd6:∀(x y:Char),x.toNat=y.toNat->x=y:=λx y h=>Char.ext (UInt32.toNat_inj.mp h)
theorem an8:∀(a b:List Char),a.map Fh=b.map Fh->a=b
 |[],[],_=>rfl
 |[],_::_,h=>by simp at h
 |_::_,[],h=>by simp at h
 |x::a,y::b,h=>by
  simp at h;rw[bd6 x y h.1,an8 a b h.2]
def f8{a b}:(AZ a=AZ b)=(a=b):=by
 refine propext ⟨λh=>?_,λh=>by rw[h]⟩;rw[ac3,ac3]at h;have h':=by simpa using h
 exact String.toList_inj.mp (an8 _ _ h')
def g9 s:(D.str (AZ s)).pure=AB:=by
 show JT (AZ s)=AB;unfold JT;rw[ac3];simp;intro c _;have h:=c.valid;show c.val.toNat<1114112;lia
variable{L:List AI}{st st':Sto}{a b c e v:E}{o u:Ob}{Q:DK}{f g:Str}{np i:Nat}{N:List Str}
abbrev Kp(L:List AI)(st st':Sto):Prop:=∀b o,b∉L->st b=AA o->st' b=AA o
def Kp.refl:Kp L st st:=λ_ _ _ h=>h
def Kp.trans{a b c}(x:Kp L a b)(y:Kp L b c):Kp L a c:=λd o n h=>y d o n (x d o n h)
def Kp.more{M}{a b}(x:Kp L a b)(s:∀d∈L,d∈M):Kp M a b:=λd o n=>x d o λz=>n (s d z)
def Kp.new{p:AI}(x:Kp L st st')(h:st' p=AC):Kp L st (b7 st' p o):=λd u n e=>by
 have e':=x d u n e;rw[i9 (λz=>by rw[z,h]at e';cases e')];exact e'
def Kp.put{p:AI}(x:Kp L st st')(h:p∈L):Kp L st (b7 st' p o):=λd u n e=>by
 rw[i9 (λz=>n (by rw[z];exact h))];exact x d u n e
def Kp.at'{b}(x:Kp L st st')h(n):=x b o n h
def j6{a p:AI}(h:st a=AA o)(hp:st p=AC):b7 st p u a=AA o:=by
 rw[i9 (λz=>by rw[z,hp]at h;cases h)];exact h
def k9{a p:AI}(h:st a=AA o)(hp:st p=AC):a≠p:=λz=>by rw[z,hp]at h;cases h
def g8{a p:AI}(h:st a=AA o)(n:a≠p):b7 st p u a=AA o:=by
 rw[i9 n];exact h
def x8{a}:b7 (b7 st a o) a u=b7 st a u:=by
 funext b;unfold b7;split<;>rfl
abbrev l7(st:Sto)(a:AI):Prop:=∃l:List Int,st a=AA (.lst (l.map .int))
def l7.keep{b}(h:l7 st b)(x:Kp L st st')(n:b∉L):l7 st' b:=let⟨l,e⟩:=h;⟨l,x.at' e n⟩
def l7.new{b p:AI}(h:l7 st b)(hp:st p=AC):l7 (b7 st p u) b:=let⟨l,e⟩:=h;⟨l,j6 e hp⟩
def l7.ne{b p:AI}(h:l7 st b)(hp:st p=AC):b≠p:=let⟨l,e⟩:=h;k9 e hp
abbrev d9(Q:DK):DEnds:={nx:=λ_ st'=>∃s2,Sub s2 st'/\Q .non s2,rt:=λd st'=>∃s2,Sub s2 st'/\Q d s2}
def b9{d:D}(h:Q d st):(d9 Q).rt d st:=⟨st,Sub.refl st,h⟩
def t5{env}(h:Q .non st):(d9 Q).nx env st:=⟨st,Sub.refl st,h⟩
@[reducible]noncomputable def Zg(P:f6)(G:Gs)(n:Nat):Sg:=⟨λf=>(P f).isSome,sem P G n,G.tab,G.cls,(o9 P G n).2.1,λf=>(o9 P G n).2.2.1&&(P f).isSome,B8 P G n,G.cst⟩
def f7{P:f6}{G:Gs}{n:Nat}{fd:Def}{ds:List D}(hP:P f=AA fd)(hl:ds.length=fd.np)(env:c9)(he:X3 fd ds=env)
  (h:d8 (Zg P G n) fd.body (d9 Q) env st):sem P G (n+1) f ds st Q:=by
 rw[bl3];exact⟨fd,hP,hl,by rw[he];exact h⟩
def V6{P:f6}{G:Gs}{n:Nat}{b:Ss}{cs ds:List D}(hl:ds.length=np)(env:c9)(he:D3 N ds cs=env)
  (h:d8 (Zg P G n) b (d9 Q) env st):B8 P G (n+1) np N b cs ds st Q:=by
 rw[bh6];exact⟨hl,by rw[he];exact h⟩
section
variable {Z:Sg} {F:DEnds} {env:c9} 
def b85{s}{r}:d8 Z (.cons s r) F env st=wpS Z s ⟨d8 Z r F,F.rt,F.bk,F.ct⟩ env st:=rfl
def cr7:d8 Z .nil F env st=F.nx env st:=rfl
def a67:wpS Z (.set i e) F env st=wpE Z e env st λd st1=>F.nx (env.set i (AA d)) st1:=rfl
def cc9{o i:E}:wpS Z (.iput o i v) F env st=wpE Z v env st λd st1=>wpE Z o env st1 λx st2=>wpE Z i env st2 λy st3=>ai7 x y d st3 λst4=>F.nx env st4:=rfl
def cp5{o i}:wpS Z (.put o i v) F env st=wpE Z v env st λd st1=>wpE Z o env st1 λx st2=>wpE Z i env st2 λy st3=>∃a j k ds,x=.ref a/\y=.int j/\st3 a=AA (.lst ds)/\ixN ds.length j=AA k/\F.nx env (b7 st3 a (.lst (ds.set k d))):=rfl
def cz1:wpS Z (.ex e) F env st=wpE Z e env st λ_ st1=>F.nx env st1:=rfl
def cq1{a b}:wpS Z (.iff c a b) F env st=wpE Z c env st λd st1=>∃k,d=.bl k/\if k=AB then d8 Z a F env st1 else d8 Z b F env st1:=rfl
def ch1:wpS Z (.ret e) F env st=wpE Z e env st F.rt:=rfl
def cc5:wpS Z .retN F env st=F.rt .non st:=rfl
def cg7{t}{it}{b}:wpS Z (.for t it b) F env st=u2 Z it env st λitems chk st1=>p0 chk t (d8 Z b) F items env st1:=rfl
def b95:wpS Z .pass F env st=F.nx env st:=rfl
def ci3:wpE Z .non env st Q=Q .non st:=rfl
def ct5{b:Bool}:wpE Z (.bl b) env st Q=Q (.bl b) st:=rfl
def a68{i:Int}:wpE Z (.int i) env st Q=Q (.int i) st:=rfl
def a79{x:Str}:wpE Z (.str x) env st Q=Q (.str x) st:=rfl
def e_v:wpE Z (.v i) env st Q=∃d,env[i]?=AA (AA d)/\Q d st:=rfl
def a90{es:Es}:wpE Z (.tup es) env st Q=p3 Z es env st λds st1=>Q (.tup ds) st1:=rfl
def cl3{es:Es}:wpE Z (.lst es) env st Q=p3 Z es env st λds st1=>∀p,st1 p=AC->Q (.ref p) (b7 st1 p (.lst ds)):=rfl
def co5{o}:wpE Z (.bin o a b) env st Q=wpE Z a env st λx st1=>wpE Z b env st1 λy st2=>t6 o x y st2 Q:=rfl
def cq5:wpE Z (.neg a) env st Q=wpE Z a env st λx st1=>∃i,x=.int i/\Q (.int (-i)) st1:=rfl
def cs5{o}:wpE Z (.cmp o a b) env st Q=wpE Z a env st λx st1=>wpE Z b env st1 λy st2=>i6 o x y st2 Q:=rfl
def cq9:wpE Z (.isN a) env st Q=wpE Z a env st λx st1=>x=.non/\Q (.bl AB) st1\/x≠.non/\Q (.bl AH) st1:=rfl
def b55:wpE Z (.notN a) env st Q=wpE Z a env st λx st1=>x=.non/\Q (.bl AH) st1\/x≠.non/\Q (.bl AB) st1:=rfl
def co0:wpE Z (.and a b) env st Q=wpE Z a env st λx st1=>∃c,x=.bl c/\if c=AB then wpE Z b env st1 Q else Q (.bl AH) st1:=rfl
def ct1:wpE Z (.or a b) env st Q=wpE Z a env st λx st1=>∃c,x=.bl c/\if c=AB then Q (.bl AB) st1 else wpE Z b env st1 Q:=rfl
def ch3:wpE Z (.not a) env st Q=wpE Z a env st λx st1=>∃c,x=.bl c/\Q (.bl !c) st1:=rfl
def ci9:wpE Z (.ite c a b) env st Q=wpE Z c env st λx st1=>∃k,x=.bl k/\if k=AB then wpE Z a env st1 Q else wpE Z b env st1 Q:=rfl
def cz4:wpE Z (.ix a b) env st Q=wpE Z a env st λx st1=>wpE Z b env st1 λy st2=>ixR x y st2 Q:=rfl
abbrev bnd(Z:Sg)(e:E)(env:c9)(st:Sto):(Option Int->Sto->Prop)->Prop:=if e.isNon=AB then λk=>k AC st else λk=>wpE Z e env st λd st'=>∃i,d=.int i/\k (AA i) st'
def bz7{k}:bnd Z .non env st k=k AC st:=rfl
def C8{k}(h:e.isNon=AH):bnd Z e env st k=wpE Z e env st λd st'=>∃i,d=.int i/\k (AA i) st':=by
 unfold bnd;rw[h];rfl
def bs0{i}{k}:bnd Z (.int i) env st k=k (AA i) st:=propext ⟨λ⟨_,h,q⟩=>by simp_all,λq=>⟨_,rfl,q⟩⟩
def cu1{lo hi}:wpE Z (.sl a lo hi) env st Q=wpE Z a env st λx st1=>bnd Z lo env st1 λl st2=>bnd Z hi env st2 λh st3=>slR x l h st3 Q:=rfl
def b60{k}:wpE Z (.gsel g k) env st Q=(Z.G g≠[]/\wpE Z k env st λx st1=>∃w d,x=.str w/\o8 (Z.G g) w=AA d/\Q d st1):=rfl
def cj5:wpE Z (.len a) env st Q=wpE Z a env st λx st1=>G9 x st1 Q:=rfl
def bx7:wpE Z (.toInt a) env st Q=wpE Z a env st λx st1=>R3 x st1 Q:=rfl
def ca7:wpE Z (.list a) env st Q=wpE Z a env st λx st1=>X7 x st1 Q:=rfl
def bt7:wpE Z (.tuple a) env st Q=wpE Z a env st λx st1=>M4 x st1 Q:=rfl
def cr2:wpE Z (.min a b) env st Q=wpE Z a env st λx st1=>wpE Z b env st1 λy st2=>∃i j,x=.int i/\y=.int j/\Q (.int (if j<i then j else i)) st2:=rfl
def a54{es:Es}:wpE Z (.call f es) env st Q=(Z.F f=AB/\p3 Z es env st λds st1=>Z.Phi f ds st1 Q):=rfl
def cx7:wpE Z (.gf f) env st Q=(Z.F f=AB/\Q (.fn f) st):=rfl
def b47{k d}:wpE Z (.gget g k d) env st Q=(Z.G g≠[]/\wpE Z k env st λx st1=>wpE Z d env st1 λy st2=>∃w,x=.str w/\Q ((o8 (Z.G g) w).getD y) st2):=rfl
def cq2:wpE Z (.fld a f) env st Q=wpE Z a env st λx st1=>∃p c fs d,x=.ref p/\st1 p=AA (.ins c fs)/\f∈Z.C c/\fs.lookup f=AA d/\Q d st1:=rfl
def cb3{m:Str}{es:Es}:wpE Z (.meth a m es) env st Q=wpE Z a env st λx st1=>∃p c fs,x=.ref p/\st1 p=AA (.ins c fs)/\fs.lookup m=AC/\Z.F (c6 c m)=AB/\p3 Z es env st1 λds st2=>Z.Phi (c6 c m) (.ref p::ds) st2 Q:=rfl
def cd4{c:Str}{es:Es}:wpE Z (.make c es) env st Q=(Z.MF (c6 c "__init__")=AB/\p3 Z es env st λds st1=>∀p,st1 p=AC->Z.Mk (c6 c "__init__") (.ref p::ds) (b7 st1 p (.ins c [])) λv st2=>v=.non/\Q (.ref p) st2):=rfl
def Q6{o}:wpS Z (.fldS o f v) F env st=wpE Z v env st λd st1=>wpE Z o env st1 λx st2=>∃p c fs,x=.ref p/\st2 p=AA (.ins c fs)/\f∈Z.C c/\fs.length<1000/\F.nx env (b7 st2 p (.ins c (g7 f d fs))):=rfl
def b87:wpS Z .dead F env st=False:=rfl
def bu1{es:Es}:wpE Z (.callv i es) env st Q=∃x,env[i]?=AA (AA x)/\N2 Z (p3 Z es env) st Q x:=rfl
def cn2{ta}:N2 Z ta st Q (.fn f)=(Z.F f=AB/\ta st λds st1=>Z.Phi f ds st1 Q):=rfl
def b82{ta:Sto->(List D->Sto->Prop)->Prop}{b:Ss}{cs:List D}:N2 Z ta st Q (.clo np N b cs)=ta st λds st1=>Z.PhiC np N b cs ds st1 Q:=rfl
abbrev O0(env:c9):List Nat->(List D->Prop)->Prop
 |[],k=>k []
 |i::is,k=>∃d,env[i]?=AA (AA d)/\O0 env is λds=>k (d::ds)
def bl6{k:List D->Prop}:O0 env [] k=k []:=rfl
def ao0{is}{k}:O0 env (i::is) k=∃d,env[i]?=AA (AA d)/\O0 env is λds=>k (d::ds):=rfl
theorem ah8:∀{cp}{k},(∃cs,C5 env cp=AA cs/\k cs)=O0 env cp k
 |[],k=>propext ⟨λ⟨_,h,q⟩=>by cases h;exact q,λq=>⟨_,rfl,q⟩⟩
 |i::is,k=>by
  refine propext ⟨λ⟨cs,h,q⟩=>?_,λ⟨d,hd,q⟩=>?_⟩
  ·unfold C5 at h
   split at h
   ·rename_i d ds h1 h2;cases h;exact⟨d,h1,(ah8)▸⟨ds,h2,q⟩⟩
   ·cases h
  ·rw[<-ah8]at q;obtain⟨ds,h2,q⟩:=q;exact⟨d::ds,by unfold C5;rw[hd,h2],q⟩
def cs4{cp}{b}:wpS Z (.dfn i np N cp b) F env st=O0 env cp λcs=>F.nx (env.set i (AA (.clo np N b cs))) st:=ah8
def cu5:wpE Z (.gc g) env st Q=∃d,Z.Kc g=AA d/\Q d st:=rfl
def cm4{t}:wpE Z (.isT t a) env st Q=wpE Z a env st λx st1=>X9 t x st1 Q:=rfl
def co6:wpE Z (.app a b) env st Q=wpE Z a env st λx st1=>v2 x st1/\wpE Z b env st1 λy st2=>T4 x y st2 Q:=rfl
def cj6:wpE Z (.ext a b) env st Q=wpE Z a env st λx st1=>v2 x st1/\wpE Z b env st1 λy st2=>O1 x y st2 Q:=rfl
def by8:wpE Z (.popAt a b) env st Q=wpE Z a env st λx st1=>v2 x st1/\wpE Z b env st1 λy st2=>ag7 x y st2 Q:=rfl
def cs7:wpE Z (.pop a) env st Q=wpE Z a env st λx st1=>T5 x st1 Q:=rfl
def b02{es:Es}:wpE Z (.calln f es) env st Q=(∃i,Z.F f=AB/\p6 Z.C f=AA i/\p3 Z es env st λds st1=>Z.Phi f (ds++[.int i]) st1 Q):=rfl
def cd8:wpE Z (.sset a) env st Q=wpE Z a env st λx st1=>Y7 x st1 Q:=rfl
def cq3:wpE Z (.any a) env st Q=wpE Z a env st λx st1=>aj6 x st1 Q:=rfl
def cn4:wpE Z .dni env st Q=∀p,st p=AC->Q (.ref p) (b7 st p (.dct [])):=rfl
def ca6:wpE Z (.lrev a) env st Q=wpE Z a env st λx st1=>S7 x st1 Q:=rfl
def Q4{Q:List D->Sto->Prop}:p3 Z .nil env st Q=Q [] st:=rfl
def af1{r}{Q}:p3 Z (.cons e r) env st Q=wpE Z e env st λd st1=>p3 Z r env st1 λds st2=>Q (d::ds) st2:=rfl
abbrev A3(Z:Sg)(c:E):DB:=if c.isNon=AB then λ_ st Q=>Q AB st else λenv st Q=>wpE Z c env st λd st'=>∃b,d=.bl b/\Q b st'
def cb4{Nc:List Str}{fr:List Nat}{k:Nat}{t:Tg}{it:It}:wpE Z (.comp Nc fr k t it c e) env st Q=u2 Z it env st λitems chk st1=>items.length<=1000000/\t0 chk t (A3 Z c) (λenv st Q=>wpE Z e env st Q) (λacc st'=>∀p,st' p=AC->Q (.ref p) (b7 st' p (.lst acc))) items [] (E9 fr k env) st1:=rfl
variable {k:ItK}
def co7:u2 Z (.seq e) env st k=wpE Z e env st λd st1=>(∃ds,d=.tup ds/\k ds (λ_=>True) st1)\/∃a ds,d=.ref a/\rdS st1 a ds/\k ds (λst'=>rdS st' a ds) st1:=rfl
def ci4:u2 Z (.rng a) env st k=wpE Z a env st λd st1=>∃j:Int,d=.int j/\(-2^62<=j/\j<2^62)/\k (l8 0 j.toNat) (λ_=>True) st1:=rfl
def ca8:u2 Z (.rng2 a b) env st k=wpE Z a env st λd st1=>wpE Z b env st1 λe st2=>∃i j:Int,d=.int i/\e=.int j/\(-2^62<=i/\i<2^62/\-2^62<=j/\j<2^62)/\k (l8 i (j-i).toNat) (λ_=>True) st2:=rfl
def b83:u2 Z (.enum e) env st k=wpE Z e env st λd st1=>(∃ds,d=.tup ds/\k (k7 0 ds) (λ_=>True) st1)\/∃a ds,d=.ref a/\rdS st1 a ds/\k (k7 0 ds) (λst'=>rdS st' a ds) st1:=rfl
def cq7:u2 Z (.rev e) env st k=wpE Z e env st λd st1=>∃a ds,d=.ref a/\rdS st1 a ds/\k ds.reverse (λst'=>rdS st' a ds) st1:=rfl
end
end Ek
namespace Ek
open PySem L2
variable{i:Int}{b:Bool}{lo hi:Option Int}{chk:Sto->Prop}{t:Tg}{env:c9}
section
variable {st:Sto} {Q:DK} {j:Int} {a p:AI} {ds es xs ys:List D} {x y d:D}
def ct6{a}{r:c9}{Q:D->Prop}:(∃d,(AA a::r)[0]?=AA (AA d)/\Q d)=Q a:=propext ⟨λ⟨_,h,q⟩=>by simp_all,λq=>⟨a,rfl,q⟩⟩
def cy7{a}{r:c9}{i}{Q:D->Prop}:(∃d,(a::r)[i+1]?=AA (AA d)/\Q d)=∃d,r[i]?=AA (AA d)/\Q d:=rfl
def cx0{a}{Q:D->Prop}:(∃d,AA (AA a)=AA (AA d)/\Q d)=Q a:=propext ⟨λ⟨_,h,q⟩=>by grind,λq=>⟨a,rfl,q⟩⟩
def ck4{Q:Int->Prop}:(∃d,D.int i=.int d/\Q d)=Q i:=propext ⟨λ⟨_,h,q⟩=>⋯,λq=>⟨i,rfl,q⟩⟩
def ak5{i}{Q:Bool->Prop}:(∃d,D.bl i=.bl d/\Q d)=Q i:=propext ⟨λ⟨_,h,q⟩=>⋯,λq=>⟨i,rfl,q⟩⟩
def cl8{Q:List D->Prop}:(∃d,D.tup ds=.tup d/\Q d)=Q ds:=propext ⟨λ⟨_,h,q⟩=>⋯,λq=>⟨_,rfl,q⟩⟩
def cd6{α:Type}{a}{Q:α->Prop}:(∃d,AA a=AA d/\Q d)=Q a:=propext ⟨λ⟨_,h,q⟩=>by grind,λq=>⟨a,rfl,q⟩⟩
def ci2{i}{l}{Q:D->Prop}:(∃w d,D.str i=.str w/\o8 l w=AA d/\Q d)=∃d,o8 l i=AA d/\Q d:=propext ⟨λ⟨_,d,h,e,q⟩=>by simp_all,λ⟨d,e,q⟩=>⟨_,d,rfl,e,q⟩⟩
def b84{j}{Q:Int->Int->Prop}:(∃a b,D.int i=.int a/\D.int j=.int b/\Q a b)=Q i j:=propext ⟨λ⟨_,_,h,h',q⟩=>by grind,λq=>⟨_,_,rfl,rfl,q⟩⟩
def cb8:t6 .Add (.int i) (.int j) st Q=Q (.int (i+j)) st:=rfl
def b79:t6 .Add (.tup xs) (.tup ys) st Q=(xs.length+ys.length<=sizeLine/\Q (.tup (xs++ys)) st):=rfl
def cg0:t6 .Sub (.int i) (.int j) st Q=Q (.int (i-j)) st:=rfl
def b43:t6 .Mult (.int i) (.int j) st Q=(G0 i j/\Q (.int (i*j)) st):=rfl
def a40:t6 .Mod (.int i) (.int j) st Q=(0<j/\Q (.int (i % j)) st):=rfl
def b56:t6 .FloorDiv (.int i) (.int j) st Q=(Y1 i j/\Q (.int (i / j)) st):=rfl
def b24:t6 .Pow (.int i) (.int j) st Q=(aj5 i j/\Q (.int (i^j.toNat)) st):=rfl
def V8:deq (.int i) (.int j)=AE (i=j):=rfl
def i8{x y}:deq (.str x) (.str y)=AE (x=y):=rfl
abbrev o5:List D->List D->Bool
 |[],[]=>AB
 |x::xs,y::ys=>deq x y&&o5 xs ys
 |_,_=>AH
theorem av9:∀xs ys,Co (D.pys xs) (D.pys ys)=o5 xs ys
 |[],[]=>rfl
 |[],_::_=>rfl
 |_::_,[]=>rfl
 |x::xs,y::ys=>by show(BC x.py y.py&&Co (D.pys xs) (D.pys ys))=_;rw[av9 xs ys];rfl
def p8:deq (.tup xs) (.tup ys)=o5 xs ys:=by
 show BC (.tuple (D.pys xs)) (.tuple (D.pys ys))=_;rw[BC,av9]
def M8:i5 (.int i)=0:=rfl
def l9{x:Str}:i5 (.str x)=0:=rfl
def cj0:i6 .Eq (.int i) (.int j) st Q=Q (.bl (AE (i=j))) st:=propext ⟨λh=>h.2.2.2,λh=>⟨rfl,rfl,(Ao _),h⟩⟩
def cs3:i6 .NotEq (.int i) (.int j) st Q=Q (.bl !decide (i=j)) st:=propext ⟨λh=>h.2.2.2,λh=>⟨rfl,rfl,(Ao _),h⟩⟩
def ah6{x y}:i6 .Eq (.str (AZ x)) (.str (AZ y)) st Q=Q (.bl (AE (x=y))) st:=by
 show(_/\_/\_/\_)=_;simp only[i8,f8];exact propext ⟨λh=>h.2.2.2,λh=>⟨g9 _,g9 _,Ao _,h⟩⟩
def aj4{x y}:i6 .NotEq (.str (AZ x)) (.str (AZ y)) st Q=Q (.bl !decide (x=y)) st:=by
 show(_/\_/\_/\_)=_;simp only[i8,f8];exact propext ⟨λh=>h.2.2.2,λh=>⟨g9 _,g9 _,Ao _,h⟩⟩
def a78:i6 .Eq x y st Q=(x.pure=AB/\y.pure=AB/\ES (i5 x) (i5 y)<=2000/\Q (.bl (deq x y)) st):=by cases x<;>cases y<;>rfl
def cp6:i6 .NotEq x y st Q=(x.pure=AB/\y.pure=AB/\ES (i5 x) (i5 y)<=2000/\Q (.bl (!deq x y)) st):=by cases x<;>cases y<;>rfl
def cm9{c}:i6 .Is (.bl b) (.bl c) st Q=Q (.bl (b==c)) st:=rfl
def b06{c:Bool}:i6 .IsNot (.bl b) (.bl c) st Q=Q (.bl (b != c)) st:=rfl
def ck0:i6 .Lt (.int i) (.int j) st Q=Q (.bl (AE (i<j))) st:=rfl
def cg9:i6 .LtE (.int i) (.int j) st Q=Q (.bl (AE (i<=j))) st:=rfl
def ch8:i6 .Gt (.int i) (.int j) st Q=Q (.bl (AE (j<i))) st:=rfl
def cr6:i6 .GtE (.int i) (.int j) st Q=Q (.bl (AE (j<=i))) st:=rfl
def ba3:i6 .In x (.tup ys) st Q=(x.pure=AB/\D.pures ys=AB/\i5 x<=2000/\Q (.bl (ys.any λy=>deq y x)) st):=rfl
def al5{ks}:i6 .In (.int i) (.ktup ks) st Q=Q (.bl (ks.any λk=>AE (k=.inl i))) st:=rfl
def R9{w:Str}{ks:List Key}:i6 .In (.str w) (.ktup ks) st Q=((D.str w).pure=AB/\Q (.bl (ks.any λk=>AE (k=.inr w))) st):=rfl
def cn5:i6 .NotIn x (.tup ys) st Q=(x.pure=AB/\D.pures ys=AB/\i5 x<=2000/\Q (.bl (!ys.any λy=>deq y x)) st):=rfl
def cy5:ixR (.tup ds) (.int i) st Q=∃d,atI ds i=AA d/\Q d st:=rfl
def cx4:ixR (.ref a) (.int i) st Q=((∃ds d,rdS st a ds/\atI ds i=AA d/\Q d st)\/∃kvs d,st a=AA (.dct kvs)/\z6 kvs (.inl i)=AA d/\Q d st):=rfl
def b68{kvs:List (Key×D)}(h:rdS st a ds)(h':st a=AA (.dct kvs)):False:=by rcases h with h|h<;>rw[h]at h'<;>cases h'
def X2(h:rdS st a xs)(h':rdS st a ys):xs=ys:=by
 rcases h with h|h<;>rcases h' with h'|h'<;>rw[h]at h'<;>cases h'<;>rfl
def t3(h:rdS st a ds):ixR (.ref a) (.int i) st Q=∃d,atI ds i=AA d/\Q d st:=propext ⟨λz=>z.elim (λ⟨es,d,r,q⟩=>X2 h r▸⟨d,q⟩) λ⟨_,_,e,_⟩=>(b68 h e).elim,λ⟨d,q⟩=>.inl ⟨ds,d,h,q⟩⟩
def R4:rdS (b7 st p (.lst ds)) p ds:=.inl b8
def cl5:ixR (.ref p) (.int i) (b7 st p (.lst ds)) Q=∃d,atI ds i=AA d/\Q d (b7 st p (.lst ds)):=t3 R4
def cu3{α}{xs:List α}:atI xs 0=xs[0]?:=by
 unfold atI ixN;simp;split
 ·rfl
 ·simp_all
def o7{α}{xs:List α}{k:Nat}:atI xs k=xs[k]?:=by
 unfold atI ixN;rw[if_pos ⋯];split
 ·rfl
 ·simp_all
def cv5{α:Type}{xs:List α}:atI xs 1=xs[1]?:=o7 (k:=1)
def cx8{α:Type}{xs:List α}:atI xs 2=xs[2]?:=o7 (k:=2)
def cx2{α:Type}{xs:List α}:atI xs 3=xs[3]?:=o7 (k:=3)
def cs8:cx1 (.tup ds) lo hi st Q=Q (.tup (p5 ds lo hi)) st:=rfl
def cv4:slR (.tup ds) lo hi st Q=(¬(HT.sIx ds.length 0 lo=0/\HT.sIx ds.length ds.length hi=ds.length)/\Q (.tup (p5 ds lo hi)) st):=rfl
def a96(h:rdS st a ds):slR (.ref a) lo hi st Q=∀p,st p=AC->Q (.ref p) (b7 st p (.lst (p5 ds lo hi))):=propext ⟨λ⟨es,r,q⟩=>X2 h r▸q,λq=>⟨ds,h,q⟩⟩
def a89:G9 (.tup ds) st Q=Q (.int ds.length) st:=rfl
def o0(h:rdS st a ds):G9 (.ref a) st Q=Q (.int ds.length) st:=propext ⟨λ⟨es,r,q⟩=>X2 h r▸q,λq=>⟨ds,h,q⟩⟩
def ce6:G9 (.ref p) (b7 st p (.lst ds)) Q=Q (.int ds.length) (b7 st p (.lst ds)):=o0 R4
def cs6:R3 (.bl b) st Q=Q (.int (if b then 1 else 0)) st:=rfl
def cj9:R3 (.int i) st Q=Q (.int i) st:=rfl
def b38:X7 (.tup ds) st Q=∀p,st p=AC->Q (.ref p) (b7 st p (.lst ds)):=rfl
def bu2:M4 (.tup ds) st Q=Q (.tup ds) st:=rfl
def au7(h:rdS st a ds):M4 (.ref a) st Q=Q (.tup ds) st:=propext ⟨λ⟨es,r,q⟩=>X2 h r▸q,λq=>⟨ds,h,q⟩⟩
def bq4:M4 (.ref p) (b7 st p (.lst ds)) Q=Q (.tup ds) (b7 st p (.lst ds)):=au7 R4
def cm0(h:rdS st a ds):av0 (.ref a) st Q=Q (.bl AB) st:=propext ⟨λ⟨es,r,q⟩=>q,λq=>⟨ds,h,q⟩⟩
def b98:av0 (.ref p) (b7 st p (.lst ds)) Q=Q (.bl AB) (b7 st p (.lst ds)):=cm0 R4
def u1(h:rdS st a ds):v2 (.ref a) st=True:=propext ⟨λ_=>trivial,λ_=>⟨ds,h⟩⟩
def bt0:v2 (.ref p) (b7 st p (.lst ds))=True:=u1 R4
def b61:ct9 (.tup ds) st=True:=rfl
def z5(h:st a=AA (.lst ds)):T4 (.ref a) d st Q=(ds.length<sizeLine/\Q .non (b7 st a (.lst (ds++[d])))):=propext ⟨λ⟨es,r,q⟩=>by simp_all,λq=>⟨ds,h,q⟩⟩
def ck7{b}(h:st a=AA (.lst ds))(h':st b=AA (.lst es)):O1 (.ref a) (.ref b) st Q=(ds.length+es.length<=sizeLine/\Q .non (b7 st a (.lst (ds++es)))):=(propext ⟨λ⟨_,_,r,r',q⟩=>by simp_all,λq=>⟨ds,es,h,h',q⟩⟩)
def by7{tb:DS}{F:DEnds}:p0 chk t tb F [] env st=(chk st/\F.nx env st):=by rw[p0]
def bn1{tb:DS}{F:DEnds}:p0 chk t tb F (d::ds) env st=(chk st/\B6 t d env λenv'=>tb {F with nx:=p0 chk t tb F ds,ct:=p0 chk t tb F ds,bk:=F.nx} env' st):=by rw[p0]
def a63{k}{K}:B6 (.n k) d env K=K (env.set k (AA d)):=rfl
def b89{is}{K}:B6 (.tup is) (.tup ds) env K=(ds.length=is.length/\K (F6 env is ds)):=propext ⟨λ⟨es,r,q⟩=>by simp_all,λq=>⟨ds,rfl,q⟩⟩
def bd2{k}{is}:F6 env (k::is) (d::ds)=F6 (env.set k (AA d)) is ds:=rfl
def be0:F6 env [] []=env:=rfl
def ap7{tc:DB}{te:DT}{R:List D->Sto->Prop}{acc:List D}:t0 chk t tc te R [] acc env st=(chk st/\R acc st):=by rw[t0]
def ap4{tc:DB}{te:DT}{R:List D->Sto->Prop}{acc:List D}:t0 chk t tc te R (d::ds) acc env st=(chk st/\B6 t d env λenv'=>tc env' st λb st1=>if b=AB then te env' st1 λv st2=>t0 chk t tc te R ds (acc++[v]) env' st2 else t0 chk t tc te R ds acc env' st1):=by rw[t0]
def cj2{k:ItK}:((∃es,D.tup ds=.tup es/\k es (λ_=>True) st)\/(∃a es,D.tup ds=.ref a/\rdS st a es/\k es (λst'=>rdS st' a es) st))=k ds (λ_=>True) st:=
 propext ⟨λh=>by
  simp_all,λq=>.inl ⟨ds,rfl,q⟩⟩
def cg6{k:ItK}:((∃es,D.tup ds=.tup es/\k (k7 0 es) (λ_=>True) st)\/(∃a es,D.tup ds=.ref a/\rdS st a es/\k (k7 0 es) (λst'=>rdS st' a es) st))=k (k7 0 ds) (λ_=>True) st:=
 propext ⟨λh=>by
  simp_all,λq=>.inl ⟨ds,rfl,q⟩⟩
end
end Ek
namespace Ek
open PySem L2
theorem A7{chk}{t}{tb}{F}(I:List D->c9->Sto->Prop)(h0:∀env st,I [] env st->chk st/\F.nx env st)
  (h1:∀d ds env st,(∀env st,I ds env st->p0 chk t tb F ds env st)->I (d::ds) env st->chk st/\B6 t d env λenv'=>tb {F with nx:=p0 chk t tb F ds,ct:=p0 chk t tb F ds,bk:=F.nx} env' st):∀ds env st,I ds env st->p0 chk t tb F ds env st
 |[],env,st,h=>h0 env st h
 |d::ds,env,st,h=>h1 d ds env st (A7 I h0 h1 ds) h
theorem D0{chk}{t}{tc}{te}{R}(I:List D->List D->c9->Sto->Prop)(h0:∀acc env st,I [] acc env st->chk st/\R acc st)
  (h1:∀d ds acc env st,(∀acc env st,I ds acc env st->t0 chk t tc te R ds acc env st)->I (d::ds) acc env st->chk st/\B6 t d env λenv'=>tc env' st λb st1=>if b=AB then te env' st1 λv st2=>t0 chk t tc te R ds (acc++[v]) env' st2 else t0 chk t tc te R ds acc env' st1):∀ds acc env st,I ds acc env st->t0 chk t tc te R ds acc env st
 |[],acc,env,st,h=>h0 acc env st h
 |d::ds,acc,env,st,h=>h1 d ds acc env st (D0 I h0 h1 ds) h
def bq9{Z}{env}{st}{K}:A3 Z .non env st K=K AB st:=rfl
def L0{Z}{c}{env}{st}{K}(h:c.isNon=AH):A3 Z c env st K=wpE Z c env st λd st'=>∃b,d=.bl b/\K b st':=by unfold A3;rw[h];rfl
def F3{i j:Int}(h:-(2^64)<j/\j<2^64):G0 i j:=.inl (.inr h)
def M5{i j:Int}(h:-(2^64)<i/\i<2^64):G0 i j:=.inl (.inl h)
def u8{n:Nat}(h:n<=16000000):n<=sizeLine:=Ay h ∅
def B7{n:Nat}(h:n<16000000):n<sizeLine:=Ab h ∅
end Ek
namespace Ek
abbrev Ss.drop:Nat->Ss->Ss
 |0,s=>s
 |_+1,.nil=>.nil
 |k+1,.cons _ r=>Ss.drop k r
def ct2{ds}{R:PySem.Addr->List D->Prop}:(∃a es,D.tup ds=.ref a/\R a es)=False:=propext ⟨λ⟨_,_,h,_⟩=>(by cases h),AT⟩
def cu9{a}{R:List D->Prop}:(∃es,D.ref a=.tup es/\R es)=False:=propext ⟨λ⟨_,h,_⟩=>(by cases h),AT⟩
def cy1{a}{R:PySem.Addr->List D->Prop}:(∃b es,D.ref a=.ref b/\R b es)=∃es,R a es:=propext ⟨λ⟨_,es,h,q⟩=>by cases h;exact⟨es,q⟩,λ⟨es,q⟩=>⟨a,es,rfl,q⟩⟩
end Ek
namespace Ek
open PySem L2
section
variable {Z:Sg} {env:c9} {st:Sto} {k:Option Int->Sto->Prop} {K:Bool->Sto->Prop} {a b:E}
def bx2{o}:bnd Z (.bin o a b) env st k=wpE Z (.bin o a b) env st λd st'=>∃i,d=.int i/\k (AA i) st':=C8 rfl
def cs1{j}:bnd Z (.v j) env st k=wpE Z (.v j) env st λd st'=>∃i,d=.int i/\k (AA i) st':=C8 rfl
def bo3{g}:bnd Z (.gsel g a) env st k=wpE Z (.gsel g a) env st λd st'=>∃i,d=.int i/\k (AA i) st':=C8 rfl
def bv1:bnd Z (.len a) env st k=wpE Z (.len a) env st λd st'=>∃i,d=.int i/\k (AA i) st':=C8 rfl
def b04:bnd Z (.neg a) env st k=wpE Z (.neg a) env st λd st'=>∃i,d=.int i/\k (AA i) st':=C8 rfl
def cf9:bnd Z (.ix a b) env st k=wpE Z (.ix a b) env st λd st'=>∃i,d=.int i/\k (AA i) st':=C8 rfl
def bo6{f}{es}:bnd Z (.call f es) env st k=wpE Z (.call f es) env st λd st'=>∃i,d=.int i/\k (AA i) st':=C8 rfl
def bv9{o}:A3 Z (.cmp o a b) env st K=wpE Z (.cmp o a b) env st λd st'=>∃b,d=.bl b/\K b st':=L0 rfl
def bu5:A3 Z (.and a b) env st K=wpE Z (.and a b) env st λd st'=>∃b,d=.bl b/\K b st':=L0 rfl
def b45:A3 Z (.or a b) env st K=wpE Z (.or a b) env st λd st'=>∃b,d=.bl b/\K b st':=L0 rfl
def br4:A3 Z (.not a) env st K=wpE Z (.not a) env st λd st'=>∃b,d=.bl b/\K b st':=L0 rfl
def bo8{f}{es}:A3 Z (.call f es) env st K=wpE Z (.call f es) env st λd st'=>∃b,d=.bl b/\K b st':=L0 rfl
end
def W4{n d:Nat}:HT.sIx n d AC=d:=rfl
def W9{n d k:Nat}:HT.sIx n d (AA k)=min k n:=rfl
def b75{ds:List D}{k:Nat}:p5 ds AC (AA (k:Int))=ds.take k:=by
 unfold p5;rw[W4,W9,List.drop_zero,JN]
 by_cases h:k<=ds.length
 ·rw[JU h]
 ·rw[JO ⋯,DQ (AW _),DQ ⋯]
def as6{ds}{k:Nat}:p5 ds (AA k) AC=ds.drop k:=by
 unfold p5;rw[W4,W9]
 by_cases h:k<=ds.length
 ·rw[JU h,DQ (by rw[CB];lia)]
 ·rw[JO ⋯,HX (AW _),HX ⋯,List.take_nil]
variable{st:Sto}{a:AI}{ds:List D}{Q:DK}
def cl9{es}(h:st a=AA (.lst ds)):O1 (.ref a) (.tup es) st Q=(ds.length+es.length<=sizeLine/\Q .non (b7 st a (.lst (ds++es)))):=propext ⟨λ⟨_,r,q⟩=>by simp_all,λq=>⟨ds,h,q⟩⟩
def aj8{t}{d}{ty}(h:tyD d st=AA ty)(q:Q (.bl (ty==t||ty=="bool"&&t=="int")) st):X9 t d st Q:=.inl ⟨ty,h,q⟩
def br8{Z}{F}{env}{c}{b}:wpS Z (.while c b) F env st=∃n,k6 (wpT Z c) (d8 Z b) F n env st:=rfl
def aw0{Z}{e}{env}{K}:wpT Z e env st K=wpE Z e env st λd st'=>∃b,d=.bl b/\K b st':=rfl
def ap6{tc}{tb}{F}(I:Nat->c9->Sto->Prop)(step:∀m env st W,I m env st->(∀m' env' st',m'<m->I m' env' st'->W env' st')->tc env st λb st1=>if b=AB then tb {F with nx:=W,ct:=W,bk:=F.nx} env st1 else F.nx env st1):∀m env st,I m env st->∃n,k6 tc tb F n env st:=by
 have main:∀k m env st,m<=k->I m env st->k6 tc tb F (k+1) env st:=by
  intro k
  induction k with
  |zero=>
   intro m env st hm hI;exact step m env st _ hI λm' env' st' hlt _=>by lia
  |succ k ih=>
   intro m env st hm hI;exact step m env st _ hI λm' env' st' hlt=>ih m' env' st' ⋯
 exact λm env st hI=>⟨m+1,main m m env st (AW _) hI⟩
def N4{d:D}(h:st a=AA (.lst (ds++[d]))):T5 (.ref a) st Q=Q d (b7 st a (.lst ds)):=by
 show(∃ds d,st a=AA (.lst (ds++[d]))/\_)=_;refine propext ⟨λ z39=>?_,λq=>⟨ds,d,h,q⟩⟩;obtain⟨es,e,r,q⟩:=z39;rw[h]at r;simp only[Ct,Ob.lst.injEq]at r;obtain⟨r1,r2⟩:=JP r rfl;cases r2;rw[r1];exact q
def ch0(h:st a=AA (.lst ds)):S7 (.ref a) st Q=Q .non (b7 st a (.lst ds.reverse)):=propext ⟨λ⟨_,r,q⟩=>by grind,λq=>⟨ds,h,q⟩⟩
def ct7{f}{Q:Str->Prop}:(∃g,AA (AA (D.fn f))=AA (AA (.fn g))/\Q g)=Q f:=propext ⟨λ⟨_,h,q⟩=>by grind,λq=>⟨f,rfl,q⟩⟩
end Ek
namespace Ek
open PySem L2
variable{x:String}
section
variable {Z:Sg} {F:DEnds} {env:c9} {st:Sto} {Q:DK} {a b c e:D} {l:List D} {A B:Prop} {i:Nat} {s:S} {t u:Ss}
def Z2{n:Nat}{k:Int}(e:k=n)(h:l[n]?=AA a):ixR (.tup l) (.int k) st Q=Q a st:=by
 subst e;exact propext ⟨λ⟨_,h',q⟩=>by rw[o7,h]at h';cases h';exact q,λq=>⟨a,o7▸h,q⟩⟩
def cz0:ixR (.tup (a::l)) (.int 0) st Q=Q a st:=Z2 rfl rfl
def cw6:ixR (.tup (b::a::l)) (.int 1) st Q=Q a st:=Z2 rfl rfl
def cy8:ixR (.tup (b::c::a::l)) (.int 2) st Q=Q a st:=Z2 rfl rfl
def cz5:ixR (.tup (b::c::e::a::l)) (.int 3) st Q=Q a st:=Z2 rfl rfl
def cz8:(∃k,D.bl AB=.bl k/\if k=AB then A else B)=A:=propext ⟨λ⟨_,h,q⟩=>by simp_all,λq=>⟨_,rfl,q⟩⟩
def cv9:(∃k,D.bl AH=.bl k/\if k=AB then A else B)=B:=propext ⟨λ⟨_,h,q⟩=>by simp_all,λq=>⟨_,rfl,q⟩⟩
def cm2:i6 .Eq (.str (AZ x)) (.str (AZ x)) st Q=Q (.bl AB) st:=by rw[ah6,decide_eq_true rfl]
def co9{y}(h:AE (x=y)=AH):i6 .Eq (.str (AZ x)) (.str (AZ y)) st Q=Q (.bl AH) st:=by rw[ah6,h]
def cr9:i6 .NotEq (.str (AZ x)) (.str (AZ x)) st Q=Q (.bl AH) st:=by rw[aj4,decide_eq_true rfl];rfl
def cm7{y}(h:AE (x=y)=AH):i6 .NotEq (.str (AZ x)) (.str (AZ y)) st Q=Q (.bl AB) st:=by rw[aj4,h];rfl
def u3(h:wpS Z s ⟨d8 Z t F,F.rt,F.bk,F.ct⟩ env st):d8 Z (.cons s t) F env st:=h
end
end Ek
namespace Ek
open PySem L2
inductive Kd where
 |non|one|eith (a b:Kd)|both (a b:Kd)|way (a b:Kd)
 deriving DecidableEq
abbrev Kd.d:Kd->D
 |.non=>.tup [.str "none"]
 |.one=>.tup [.str "one"]
 |.eith a b=>.tup [.str "either",a.d,b.d]
 |.both a b=>.tup [.str "both",a.d,b.d]
 |.way a b=>.tup [.str "way",a.d,b.d]
abbrev Kd.cnt:Kd->Nat
 |.non=>0|.one=>1
 |.eith a b=>a.cnt+b.cnt
 |.both a b=>a.cnt*b.cnt
 |.way a b=>b.cnt^a.cnt
abbrev Kd.nest:Kd->Nat
 |.non=>0|.one=>0
 |.eith a b=>1+max a.nest b.nest
 |.both a b=>1+max a.nest b.nest
 |.way a b=>1+max a.nest b.nest
abbrev Kd.bd(m:Nat):Kd->Prop
 |.non=>True|.one=>1<=m
 |.eith a b=>a.bd m/\b.bd m/\a.cnt+b.cnt<=m
 |.both a b=>a.bd m/\b.bd m/\a.cnt*b.cnt<=m
 |.way a b=>a.bd m/\b.bd m/\b.cnt^a.cnt<=m
def Kd.bd_le{m:Nat}:∀{k:Kd},k.bd m->k.cnt<=m
 |.non,_=>Ao _
 |.one,h=>h
 |.eith _ _,h=>h.2.2
 |.both _ _,h=>h.2.2
 |.way _ _,h=>h.2.2
def P9:∀a b:Kd,deq a.d b.d=AE (a=b):=by
 intro a
 induction a with
 |non=>intro b;cases b<;>simp[Kd.d,p8,o5,i8,f8]
 |one=>intro b;cases b<;>simp[Kd.d,p8,o5,i8,f8]
 |eith a c iha ihc=>intro b;cases b<;>simp[Kd.d,p8,o5,i8,f8,iha,ihc]
 |both a c iha ihc=>intro b;cases b<;>simp[Kd.d,p8,o5,i8,f8,iha,ihc]
 |way a c iha ihc=>intro b;cases b<;>simp[Kd.d,p8,o5,i8,f8,iha,ihc]
def u4{d}{r}:D.pures (d::r)=(d.pure&&D.pures r):=rfl
def u6:D.pures []=AB:=rfl
def E6{r:List D}:(D.tup r).pure=D.pures r:=rfl
def at4{i:Int}:(D.int i).pure=AB:=rfl
theorem A6:∀k:Kd,k.d.pure=AB
 |.non=>by simp only[Kd.d,E6,u4,u6,g9,BU]
 |.one=>by simp only[Kd.d,E6,u4,u6,g9,BU]
 |.eith a b=>by simp only[Kd.d,E6,u4,u6,g9,A6 a,A6 b,BU]
 |.both a b=>by simp only[Kd.d,E6,u4,u6,g9,A6 a,A6 b,BU]
 |.way a b=>by simp only[Kd.d,E6,u4,u6,g9,A6 a,A6 b,BU]
abbrev o4:List D->Nat
 |[]=>0
 |d::r=>max (i5 d) (o4 r)
theorem as0:∀l,CQ (D.pys l)=o4 l
 |[]=>rfl
 |d::r=>by show max (FW d.py) (CQ (D.pys r))=_;rw[as0 r];rfl
def r6{l}:i5 (.tup l)=o4 l+1:=by
 show FW (.tuple (D.pys l))=_;rw[FW,as0]
theorem v8:∀k:Kd,i5 k.d=k.nest+1
 |.non=>by rfl
 |.one=>by rfl
 |.eith a b=>by simp only[Kd.d,r6,o4,l9,Kd.nest,v8 a,v8 b,LI];lia
 |.both a b=>by simp only[Kd.d,r6,o4,l9,Kd.nest,v8 a,v8 b,LI];lia
 |.way a b=>by simp only[Kd.d,r6,o4,l9,Kd.nest,v8 a,v8 b,LI];lia
set_option genSizeOf true in
inductive Pg where
 |name (n:Nat)|star|pair (t u:Pg)|first (t:Pg)|second (t:Pg)|left (b:Kd) (t:Pg)|right (a:Kd) (t:Pg)
 |case (t u v:Pg)|way (a:Kd) (t:Pg)|give (t u:Pg)|lets (t u:Pg)|never (k:Kd) (t:Pg)
 deriving DecidableEq
abbrev Pg.d:Pg->D
 |.name n=>.tup [.str "name",.int n]
 |.star=>.tup [.str "star"]
 |.pair t u=>.tup [.str "pair",t.d,u.d]
 |.first t=>.tup [.str "first",t.d]
 |.second t=>.tup [.str "second",t.d]
 |.left b t=>.tup [.str "left",b.d,t.d]
 |.right a t=>.tup [.str "right",a.d,t.d]
 |.case t u v=>.tup [.str "case",t.d,u.d,v.d]
 |.way a t=>.tup [.str "way",a.d,t.d]
 |.give t u=>.tup [.str "give",t.d,u.d]
 |.lets t u=>.tup [.str "let",t.d,u.d]
 |.never k t=>.tup [.str "never",k.d,t.d]
abbrev Pg.kind(Γ:List Kd):Pg->Option Kd
 |.name n=>Γ[n]?
 |.star=>AA .one
 |.pair t u=>match t.kind Γ,u.kind Γ with
  |some a,AA b=>AA (.both a b)
  |_,_=>AC
 |.first t=>match t.kind Γ with
  |some (.both a _)=>AA a
  |_=>AC
 |.second t=>match t.kind Γ with
  |some (.both _ b)=>AA b
  |_=>AC
 |.left b t=>match t.kind Γ with
  |some a=>AA (.eith a b)
  |_=>AC
 |.right a t=>match t.kind Γ with
  |some b=>AA (.eith a b)
  |_=>AC
 |.case t u v=>match t.kind Γ with
  |some (.eith a b)=>match u.kind (a::Γ),v.kind (b::Γ)with
   |some k,AA l=>if k=l then AA k else AC
   |_,_=>AC
  |_=>AC
 |.way a t=>match t.kind (a::Γ)with
  |some b=>AA (.way a b)
  |_=>AC
 |.give t u=>match t.kind Γ,u.kind Γ with
  |some (.way a b),AA c=>if a=c then AA b else AC
  |_,_=>AC
 |.lets t u=>match t.kind Γ with
  |some a=>u.kind (a::Γ)
  |_=>AC
 |.never k t=>match t.kind Γ with
  |some .non=>AA k
  |_=>AC
abbrev Pg.kids:Pg->List Pg
 |.name _=>[]|.star=>[]
 |.pair t u=>[t,u]|.first t=>[t]|.second t=>[t]|.left _ t=>[t]|.right _ t=>[t]
 |.case t u v=>[t,u,v]|.way _ t=>[t]|.give t u=>[t,u]|.lets t u=>[t,u]|.never _ t=>[t]
abbrev Pg.hgt:Pg->Nat
 |.name _=>1|.star=>1
 |.pair t u=>1+max t.hgt u.hgt|.first t=>1+t.hgt|.second t=>1+t.hgt|.left _ t=>1+t.hgt|.right _ t=>1+t.hgt
 |.case t u v=>1+max t.hgt (max u.hgt v.hgt)|.way _ t=>1+t.hgt|.give t u=>1+max t.hgt u.hgt|.lets t u=>1+max t.hgt u.hgt|.never _ t=>1+t.hgt
abbrev Pg.parts:Pg->Nat
 |.name _=>1|.star=>1
 |.pair t u=>1+t.parts+u.parts|.first t=>1+t.parts|.second t=>1+t.parts|.left _ t=>1+t.parts|.right _ t=>1+t.parts
 |.case t u v=>1+t.parts+u.parts+v.parts|.way _ t=>1+t.parts|.give t u=>1+t.parts+u.parts|.lets t u=>1+t.parts+u.parts|.never _ t=>1+t.parts
abbrev Pg.kn(m:Nat):Pg->Prop
 |.name _=>True|.star=>True
 |.pair t u=>t.kn m/\u.kn m|.first t=>t.kn m|.second t=>t.kn m|.left b t=>b.nest<=m/\t.kn m|.right a t=>a.nest<=m/\t.kn m
 |.case t u v=>t.kn m/\u.kn m/\v.kn m|.way a t=>a.nest<=m/\t.kn m|.give t u=>t.kn m/\u.kn m|.lets t u=>t.kn m/\u.kn m|.never k t=>k.nest<=m/\t.kn m
def b71:∀a b:Pg,deq a.d b.d=AE (a=b):=by
 intro a
 induction a with
 |name n=>intro b;cases b<;>simp[Pg.d,p8,o5,i8,V8,f8]<;>lia
 |star=>intro b;cases b<;>simp[Pg.d,p8,o5,i8,f8]
 |pair t u iht ihu=>intro b;cases b<;>simp[Pg.d,p8,o5,i8,f8,iht,ihu]
 |give t u iht ihu=>intro b;cases b<;>simp[Pg.d,p8,o5,i8,f8,iht,ihu]
 |lets t u iht ihu=>intro b;cases b<;>simp[Pg.d,p8,o5,i8,f8,iht,ihu]
 |first t iht=>intro b;cases b<;>simp[Pg.d,p8,o5,i8,f8,iht]
 |second t iht=>intro b;cases b<;>simp[Pg.d,p8,o5,i8,f8,iht]
 |left k t iht=>intro b;cases b<;>simp[Pg.d,p8,o5,i8,f8,iht,P9]
 |right k t iht=>intro b;cases b<;>simp[Pg.d,p8,o5,i8,f8,iht,P9]
 |way k t iht=>intro b;cases b<;>simp[Pg.d,p8,o5,i8,f8,iht,P9]
 |never k t iht=>intro b;cases b<;>simp[Pg.d,p8,o5,i8,f8,iht,P9]
 |case t u v iht ihu ihv=>intro b;cases b<;>simp[Pg.d,p8,o5,i8,f8,iht,ihu,ihv]
def by9(p:Pg):p.d.pure=AB:=by
 induction p<;>simp only[Pg.d,E6,u4,u6,g9,at4,A6,BU, *]
def cj3{m:Nat}(p:Pg)(h:p.kn m):i5 p.d<=p.hgt+m+1:=by
 have mx:∀a b c:Nat,a<=c->b<=c->max a b<=c:=λa b c h h'=>Nat.max_le.mpr ⟨h,h'⟩;have l1:∀a b:Nat,a<=max a b:=λa b=>Fu a b;have l2:∀a b:Nat,b<=max a b:=λa b=>GW a b
 induction p with
 |name n=>simp only[Pg.d,r6,o4,l9,M8,Pg.hgt];simp
 |star=>simp only[Pg.d,r6,o4,l9,Pg.hgt];simp
 |pair t u iht ihu=>simp only[Pg.d,r6,o4,l9,Pg.hgt];have:=iht h.1;have:=ihu h.2;have:=l1 t.hgt u.hgt;have:=l2 t.hgt u.hgt;apply As;refine mx _ _ _ ⋯ (mx _ _ _ ⋯ (mx _ _ _ ⋯ ⋯))
 |give t u iht ihu=>simp only[Pg.d,r6,o4,l9,Pg.hgt];have:=iht h.1;have:=ihu h.2;have:=l1 t.hgt u.hgt;have:=l2 t.hgt u.hgt;apply As;refine mx _ _ _ ⋯ (mx _ _ _ ⋯ (mx _ _ _ ⋯ ⋯))
 |lets t u iht ihu=>simp only[Pg.d,r6,o4,l9,Pg.hgt];have:=iht h.1;have:=ihu h.2;have:=l1 t.hgt u.hgt;have:=l2 t.hgt u.hgt;apply As;refine mx _ _ _ ⋯ (mx _ _ _ ⋯ (mx _ _ _ ⋯ ⋯))
 |first t iht=>simp only[Pg.d,r6,o4,l9,Pg.hgt];have:=iht h;apply As;refine mx _ _ _ ⋯ (mx _ _ _ ⋯ ⋯)
 |second t iht=>simp only[Pg.d,r6,o4,l9,Pg.hgt];have:=iht h;apply As;refine mx _ _ _ ⋯ (mx _ _ _ ⋯ ⋯)
 |left k t iht=>simp only[Pg.d,r6,o4,l9,v8,Pg.hgt];have:=iht h.2;have:=h.1;apply As;refine mx _ _ _ ⋯ (mx _ _ _ ⋯ (mx _ _ _ ⋯ ⋯))
 |right k t iht=>simp only[Pg.d,r6,o4,l9,v8,Pg.hgt];have:=iht h.2;have:=h.1;apply As;refine mx _ _ _ ⋯ (mx _ _ _ ⋯ (mx _ _ _ ⋯ ⋯))
 |way k t iht=>simp only[Pg.d,r6,o4,l9,v8,Pg.hgt];have:=iht h.2;have:=h.1;apply As;refine mx _ _ _ ⋯ (mx _ _ _ ⋯ (mx _ _ _ ⋯ ⋯))
 |never k t iht=>simp only[Pg.d,r6,o4,l9,v8,Pg.hgt];have:=iht h.2;have:=h.1;apply As;refine mx _ _ _ ⋯ (mx _ _ _ ⋯ (mx _ _ _ ⋯ ⋯))
 |case t u v iht ihu ihv=>
  simp only[Pg.d,r6,o4,l9,Pg.hgt];have:=iht h.1;have:=ihu h.2.1;have:=ihv h.2.2;have:=l1 t.hgt (max u.hgt v.hgt);have:=l2 t.hgt (max u.hgt v.hgt);have:=l1 u.hgt v.hgt;have:=l2 u.hgt v.hgt;apply As;refine mx _ _ _ ⋯ (mx _ _ _ ⋯ (mx _ _ _ ⋯ (mx _ _ _ ⋯ ⋯)))
inductive Kn:List Kd->Pg->Kd->Prop
 |name {Γ n k}:Γ[n]?=AA k->Kn Γ (.name n) k
 |star {Γ}:Kn Γ .star .one
 |pair {Γ t u a b}:Kn Γ t a->Kn Γ u b->Kn Γ (.pair t u) (.both a b)
 |first {Γ t a b}:Kn Γ t (.both a b)->Kn Γ (.first t) a
 |second {Γ t a b}:Kn Γ t (.both a b)->Kn Γ (.second t) b
 |left {Γ t a b}:Kn Γ t a->Kn Γ (.left b t) (.eith a b)
 |right {Γ t a b}:Kn Γ t b->Kn Γ (.right a t) (.eith a b)
 |case {Γ t u v a b c}:Kn Γ t (.eith a b)->Kn (a::Γ) u c->Kn (b::Γ) v c->Kn Γ (.case t u v) c
 |way {Γ t a b}:Kn (a::Γ) t b->Kn Γ (.way a t) (.way a b)
 |give {Γ t u a b}:Kn Γ t (.way a b)->Kn Γ u a->Kn Γ (.give t u) b
 |lets {Γ t u a b}:Kn Γ t a->Kn (a::Γ) u b->Kn Γ (.lets t u) b
 |never {Γ t b}:Kn Γ t .non->Kn Γ (.never b t) b
theorem Kn.kind{Γ}{p}{k}(h:Kn Γ p k):p.kind Γ=AA k:=by
 induction h with
 |name h=>exact h
 |star=>rfl
 |pair _ _ i j=>unfold Pg.kind;rw[i,j]
 |give _ _ i j=>unfold Pg.kind;rw[i,j];exact if_pos rfl
 |first _ i|second _ i|left _ i|right _ i|way _ i|never _ i=>unfold Pg.kind;rw[i]
 |lets _ _ i j=>unfold Pg.kind;rw[i];exact j
 |case _ _ _ i j l=>unfold Pg.kind;rw[i];show(match Pg.kind _ _,Pg.kind _ _ with|some k,AA l=>if k=l then AA k else AC|_,_=>AC)=_;rw[j,l];exact if_pos rfl
def N7:∀{p:Pg}{Γ:List Kd}{k:Kd},p.kind Γ=AA k->Kn Γ p k:=by
 intro p
 induction p with
 |name n=>exact λh=>.name h
 |star=>intro Γ k h;cases h;exact .star
 |pair t u i j=>
  intro Γ k h;unfold Pg.kind at h;cases e:t.kind Γ with
  |none=>rw[e]at h;cases h
  |some a=>cases f:u.kind Γ with
   |none=>rw[e,f]at h;cases h
   |some b=>rw[e,f]at h;cases h;exact .pair (i e) (j f)
 |first t i=>
  intro Γ k h;unfold Pg.kind at h;cases e:t.kind Γ with
  |none=>rw[e]at h;cases h
  |some a=>rw[e]at h;cases a<;>cases h;exact .first (i e)
 |second t i=>
  intro Γ k h;unfold Pg.kind at h;cases e:t.kind Γ with
  |none=>rw[e]at h;cases h
  |some a=>rw[e]at h;cases a<;>cases h;exact .second (i e)
 |left b t i=>
  intro Γ k h;unfold Pg.kind at h;cases e:t.kind Γ with
  |none=>rw[e]at h;cases h
  |some a=>rw[e]at h;cases h;exact .left (i e)
 |right b t i=>
  intro Γ k h;unfold Pg.kind at h;cases e:t.kind Γ with
  |none=>rw[e]at h;cases h
  |some a=>rw[e]at h;cases h;exact .right (i e)
 |case t u v i j l=>
  intro Γ k h;unfold Pg.kind at h;cases e:t.kind Γ with
  |none=>rw[e]at h;cases h
  |some a=>
   rw[e]at h;cases a<;>first|cases h;done|skip
   rename_i a b;replace h:(match u.kind (a::Γ),v.kind (b::Γ)with|some k,AA l=>if k=l then AA k else AC|_,_=>AC)=AA k:=h;cases f:u.kind (a::Γ)with
   |none=>rw[f]at h;cases h
   |some c=>cases g:v.kind (b::Γ)with
    |none=>rw[f,g]at h;cases h
    |some d=>
     rw[f,g]at h
     by_cases z:c=d
     ·cases(if_pos z).symm.trans h;cases z;exact .case (i e) (j f) (l g)
     ·cases(if_neg z).symm.trans h
 |way a t i=>
  intro Γ k h;unfold Pg.kind at h;cases e:t.kind (a::Γ)with
  |none=>rw[e]at h;cases h
  |some a=>rw[e]at h;cases h;exact .way (i e)
 |give t u i j=>
  intro Γ k h;unfold Pg.kind at h;cases e:t.kind Γ with
  |none=>rw[e]at h;cases h
  |some a=>cases f:u.kind Γ with
   |none=>rw[e,f]at h;cases a<;>cases h
   |some c=>
    rw[e,f]at h;cases a<;>first|cases h;done|skip
    rename_i a b
    by_cases z:a=c
    ·cases(if_pos z).symm.trans h;cases z;exact .give (i e) (j f)
    ·cases(if_neg z).symm.trans h
 |lets t u i j=>
  intro Γ k h;unfold Pg.kind at h;cases e:t.kind Γ with
  |none=>rw[e]at h;cases h
  |some a=>rw[e]at h;exact .lets (i e) (j h)
 |never b t i=>
  intro Γ k h;unfold Pg.kind at h;cases e:t.kind Γ with
  |none=>rw[e]at h;cases h
  |some a=>rw[e]at h;cases a<;>cases h;exact .never (i e)
end Ek
namespace Ek
open PySem
abbrev aa9:Def:=⟨3,["whole","parts_of","made","order","done","here","many"],
 (.cons (.set 3 (.call "order_of_few" (.cons (.v 0) (.cons (.v 1) .nil))))
 (.cons (.iff (.isN (.v 3))
   (.cons .dead
  .nil)
   .nil)
 (.cons (.set 4 (.lst .nil))
 (.cons (.for (.tup [5,6]) (.rev (.v 3))
   (.cons (.ex (.app (.v 4) (.callv 2 (.cons (.v 5) (.cons (.ite (.cmp .Gt (.v 6) (.int 0)) (.call "taken" (.cons (.v 4) (.cons (.v 6) .nil))) (.lst .nil)) .nil)))))
  .nil))
 (.cons (.ret (.ix (.v 4) (.int 0)))
 .nil)))))⟩
abbrev ab9:Def:=⟨2,["whole","parts_of","order","ahead","here","parts"],
 (.cons (.set 2 (.lst .nil))
 (.cons (.set 3 (.lst (.cons (.v 0) .nil)))
 (.cons (.while (.cmp .Gt (.len (.v 3)) (.int 0))
   (.cons (.set 4 (.pop (.v 3)))
  (.cons (.set 5 (.callv 1 (.cons (.v 4) .nil)))
  (.cons (.ex (.app (.v 2) (.tup (.cons (.v 4) (.cons (.len (.v 5)) .nil)))))
  (.cons (.ex (.ext (.v 3) (.v 5)))
  (.cons (.iff (.cmp .Gt (.len (.v 2)) (.gc "FEW"))
    (.cons (.ret .non)
   .nil)
    .nil)
  .nil))))))
 (.cons (.ret (.v 2))
 .nil))))⟩
abbrev ae9:Def:=⟨2,["done","many","parts","number"],
 (.cons (.set 2 (.lst .nil))
 (.cons (.for (.n 3) (.rng (.v 1))
   (.cons (.ex (.app (.v 2) (.pop (.v 0))))
  .nil))
 (.cons (.ex (.lrev (.v 2)))
 (.cons (.ret (.v 2))
 .nil))))⟩
abbrev af3:Def:=⟨1,["program"],
 (.cons (.ret (.list (.sl (.v 0) (.gsel "INNER_FROM" (.ix (.v 0) (.int 0))) .non)))
 .nil)⟩
abbrev O8:Def:=⟨2,["program","parts"],
 (.cons (.ret (.bin .Add (.sl (.v 0) .non (.gsel "INNER_FROM" (.ix (.v 0) (.int 0)))) (.tuple (.v 1))))
 .nil)⟩
abbrev ac4:Def:=⟨2,["program","number"],
 (.cons (.ret (.ite (.cmp .In (.v 1) (.gget "UNDER_ONE_MORE" (.ix (.v 0) (.int 0)) (.tup .nil))) (.int 1) (.int 0)))
 .nil)⟩
abbrev ac2:Def:=⟨2,["program","changed","parts_of","made","!changed","!"],
 (.cons (.dfn 2 1 ["here","changed"] [1]
   (.cons (.ret (.ite (.notN (.callv 1 (.cons (.ix (.v 0) (.int 0)) (.cons (.ix (.v 0) (.int 1)) .nil)))) (.lst .nil) (.call "inner_under" (.cons (.v 0) .nil))))
  .nil))
 (.cons (.dfn 3 2 ["here","parts","changed","other"] [1]
   (.cons (.set 3 (.ite (.cmp .Eq (.len (.v 1)) (.int 0)) (.callv 2 (.cons (.ix (.v 0) (.int 0)) (.cons (.ix (.v 0) (.int 1)) .nil))) .non))
  (.cons (.iff (.any (.comp ["part"] [] 1 (.n 0) (.seq (.v 1)) .non (.ix (.v 0) (.int 1))))
    (.cons (.set 3 (.call "with_inner" (.cons (.ix (.v 0) (.int 0)) (.cons (.comp ["part"] [] 1 (.n 0) (.seq (.v 1)) .non (.ix (.v 0) (.int 0))) .nil))))
   .nil)
    .nil)
  (.cons (.ret (.ite (.isN (.v 3)) (.tup (.cons (.ix (.v 0) (.int 0)) (.cons (.bl AH) .nil))) (.tup (.cons (.v 3) (.cons (.bl AB) .nil)))))
  .nil))))
 (.cons (.ret (.ix (.call "made_of_parts" (.cons (.tup (.cons (.v 0) (.cons (.int 0) .nil))) (.cons (.v 2) (.cons (.v 3) .nil)))) (.int 0)))
 .nil)))⟩
abbrev ac0:Def:=⟨1,["here","part"],
 (.cons (.set 1 (.ix (.v 0) (.int 0)))
 (.cons (.ret (.comp ["here","part","number","one"] [0,1] 2 (.tup [2,3]) (.enum (.call "inner" (.cons (.v 1) .nil))) .non (.tup (.cons (.v 3) (.cons (.bin .Add (.ix (.v 0) (.int 1)) (.call "names_more" (.cons (.v 1) (.cons (.v 2) .nil)))) .nil)))))
 .nil))⟩
abbrev aa1:Def:=⟨3,["self","program","around"],
 (.cons (.fldS (.v 0) "program" (.v 1))
 (.cons (.fldS (.v 0) "around" (.v 2))
 (.cons (.fldS (.v 0) "together" .non)
 (.cons (.fldS (.v 0) "copies" .dni)
 (.cons (.fldS (.v 0) "has_names" (.bl AH))
 (.cons (.fldS (.v 0) "end" .non)
 (.cons (.fldS (.v 0) "steps" (.int 0))
 .nil)))))))⟩
abbrev aa0:Def:=⟨3,["self","program","most"],
 (.cons (.fldS (.v 0) "here" (.make "Bound" (.cons (.v 1) (.cons (.tup .nil) .nil))))
 (.cons (.fldS (.v 0) "forms" (.lst .nil))
 (.cons (.fldS (.v 0) "gone" (.int 0))
 (.cons (.fldS (.v 0) "most" (.v 2))
 .nil))))⟩
abbrev O4:Def:=⟨1,["self","here"],
 (.cons (.set 1 (.fld (.v 0) "here"))
 (.cons (.iff (.and (.cmp .Eq (.ix (.fld (.v 1) "program") (.int 0)) (.str "name")) (.cmp .Lt (.ix (.fld (.v 1) "program") (.int 1)) (.len (.fld (.v 1) "around"))))
   (.cons (.fldS (.v 0) "here" (.ix (.fld (.v 1) "around") (.ix (.fld (.v 1) "program") (.int 1))))
  .nil)
   (.cons (.iff (.cmp .In (.ix (.fld (.v 1) "program") (.int 0)) (.gc "WITHIN"))
    (.cons (.ex (.app (.fld (.v 0) "forms") (.v 1)))
   (.cons (.fldS (.v 0) "here" (.make "Bound" (.cons (.ix (.call "inner" (.cons (.fld (.v 1) "program") .nil)) (.int 0)) (.cons (.fld (.v 1) "around") .nil))))
   .nil))
    (.cons (.ret (.and (.cmp .Lt (.fld (.v 0) "gone") (.fld (.v 0) "most")) (.meth (.v 0) "step" .nil)))
   .nil))
  .nil))
 (.cons (.ret (.bl AB))
 .nil)))⟩
abbrev O5:Def:=⟨1,["self","other"],
 (.cons (.set 1 (.call "behind_let" (.cons (.fld (.v 0) "here") .nil)))
 (.cons (.iff (.and (.isN (.v 1)) (.cmp .Gt (.len (.fld (.v 0) "forms")) (.int 0)))
   (.cons (.set 1 (.call "behind_form" (.cons (.ix (.fld (.v 0) "forms") (.neg (.int 1))) (.cons (.fld (.v 0) "here") .nil))))
  (.cons (.iff (.notN (.v 1))
    (.cons (.ex (.pop (.fld (.v 0) "forms")))
   .nil)
    .nil)
  .nil))
   .nil)
 (.cons (.iff (.isN (.v 1))
   (.cons (.ret (.bl AH))
  .nil)
   .nil)
 (.cons (.fldS (.v 0) "here" (.v 1))
 (.cons (.fldS (.v 0) "gone" (.bin .Add (.fld (.v 0) "gone") (.int 1)))
 (.cons (.ret (.bl AB))
 .nil))))))⟩
abbrev Z8:Def:=⟨2,["self","program"],
 (.cons (.fldS (.v 0) "here" (.make "Bound" (.cons (.v 1) (.cons (.tup .nil) .nil))))
 (.cons (.fldS (.v 0) "waiting" (.lst .nil))
 (.cons (.fldS (.v 0) "reckoned" (.int 0))
 .nil)))⟩
abbrev J4:Def:=⟨1,["self","here","word"],
 (.cons (.set 1 (.fld (.v 0) "here"))
 (.cons (.set 2 (.ix (.fld (.v 1) "program") (.int 0)))
 (.cons (.iff (.cmp .Eq (.v 2) (.str "name"))
   (.cons (.ex (.meth (.v 0) "come_upon" (.cons (.ix (.fld (.v 1) "around") (.ix (.fld (.v 1) "program") (.int 1))) .nil)))
  .nil)
   (.cons (.iff (.cmp .In (.v 2) (.gc "WITHIN"))
    (.cons (.ex (.app (.fld (.v 0) "waiting") (.tup (.cons (.str "form") (.cons (.v 1) (.cons .non .nil))))))
   (.cons (.fldS (.v 0) "here" (.make "Bound" (.cons (.ix (.call "inner" (.cons (.fld (.v 1) "program") .nil)) (.int 0)) (.cons (.fld (.v 1) "around") .nil))))
   .nil))
    (.cons (.iff (.cmp .Eq (.v 2) (.str "let"))
     (.cons (.fldS (.v 0) "reckoned" (.bin .Add (.fld (.v 0) "reckoned") (.int 1)))
    (.cons (.fldS (.v 0) "here" (.call "behind_let" (.cons (.v 1) .nil)))
    .nil))
     (.cons (.ex (.meth (.v 0) "come_to" (.cons (.v 1) .nil)))
    .nil))
   .nil))
  .nil))
 .nil)))⟩
abbrev Z7:Def:=⟨2,["self","bound"],
 (.cons (.iff (.isN (.fld (.v 1) "end"))
   (.cons (.ex (.app (.fld (.v 0) "waiting") (.tup (.cons (.str "name") (.cons (.v 1) (.cons (.fld (.v 0) "reckoned") .nil))))))
  (.cons (.fldS (.v 0) "here" (.v 1))
  .nil))
   (.cons (.fldS (.v 0) "reckoned" (.bin .Add (.fld (.v 0) "reckoned") (.fld (.v 1) "steps")))
  (.cons (.ex (.meth (.v 0) "come_to" (.cons (.fld (.v 1) "end") .nil)))
  .nil)))
 .nil)⟩
abbrev J3:Def:=⟨2,["self","end","waited","bound"],
 (.cons (.fldS (.v 0) "here" .non)
 (.cons (.while (.and (.isN (.fld (.v 0) "here")) (.cmp .Gt (.len (.fld (.v 0) "waiting")) (.int 0)))
   (.cons (.set 2 (.pop (.fld (.v 0) "waiting")))
  (.cons (.set 3 (.ix (.v 2) (.int 1)))
  (.cons (.iff (.cmp .Eq (.ix (.v 2) (.int 0)) (.str "name"))
    (.cons (.fldS (.v 3) "end" (.v 1))
   (.cons (.fldS (.v 3) "steps" (.bin .Sub (.fld (.v 0) "reckoned") (.ix (.v 2) (.int 2))))
   .nil))
    (.cons (.fldS (.v 0) "reckoned" (.bin .Add (.fld (.v 0) "reckoned") (.int 1)))
   (.cons (.fldS (.v 0) "here" (.call "behind_form" (.cons (.v 3) (.cons (.v 1) .nil))))
   .nil)))
  .nil))))
 .nil))⟩
abbrev ab1:Def:=⟨1,["program","found","made","!found","!"],
 (.cons (.set 1 (.lst .nil))
 (.cons (.dfn 2 2 ["here","parts","found"] [1]
   (.cons (.ex (.app (.v 2) (.v 0)))
  (.cons (.ret .non)
  .nil)))
 (.cons (.ex (.call "made_of_parts" (.cons (.tup (.cons (.v 0) (.cons (.int 0) .nil))) (.cons (.gf "inner_under") (.cons (.v 2) .nil)))))
 (.cons (.ret (.v 1))
 .nil))))⟩
abbrev U3:Def:=⟨2,["program","most","runner","here","form","bare"],
 (.cons (.set 2 (.make "Runner" (.cons (.v 0) (.cons (.v 1) .nil))))
 (.cons (.while (.meth (.v 2) "turn" .nil)
   (.cons .pass
  .nil))
 (.cons (.set 3 (.call "put_together" (.cons (.fld (.v 2) "here") .nil)))
 (.cons (.for (.n 4) (.rev (.fld (.v 2) "forms"))
   (.cons (.set 5 (.call "put_together" (.cons (.make "Bound" (.cons (.call "with_first" (.cons (.fld (.v 4) "program") (.cons (.tup (.cons (.str "star") .nil)) .nil))) (.cons (.fld (.v 4) "around") .nil))) .nil)))
  (.cons (.set 3 (.call "with_first" (.cons (.v 5) (.cons (.v 3) .nil))))
  .nil)))
 (.cons (.ret (.tup (.cons (.v 3) (.cons (.fld (.v 2) "gone") .nil))))
 .nil)))))⟩
abbrev aa5:Def:=⟨2,["program","first"],
 (.cons (.ret (.call "with_inner" (.cons (.v 0) (.cons (.bin .Add (.lst (.cons (.v 1) .nil)) (.sl (.call "inner" (.cons (.v 0) .nil)) (.int 1) .non)) .nil))))
 .nil)⟩
abbrev aa4:Def:=⟨1,["here"],
 (.cons (.iff (.cmp .NotEq (.ix (.fld (.v 0) "program") (.int 0)) (.str "let"))
   (.cons (.ret .non)
  .nil)
   .nil)
 (.cons (.ret (.make "Bound" (.cons (.ix (.fld (.v 0) "program") (.int 2)) (.cons (.bin .Add (.tup (.cons (.make "Bound" (.cons (.ix (.fld (.v 0) "program") (.int 1)) (.cons (.fld (.v 0) "around") .nil))) .nil)) (.fld (.v 0) "around")) .nil))))
 .nil))⟩
abbrev aa2:Def:=⟨2,["form","end","word","branch"],
 (.cons (.set 2 (.ix (.fld (.v 0) "program") (.int 0)))
 (.cons (.iff (.and (.cmp .Eq (.v 2) (.str "give")) (.cmp .Eq (.ix (.fld (.v 1) "program") (.int 0)) (.str "way")))
   (.cons (.ret (.make "Bound" (.cons (.ix (.fld (.v 1) "program") (.int 2)) (.cons (.bin .Add (.tup (.cons (.make "Bound" (.cons (.ix (.fld (.v 0) "program") (.int 2)) (.cons (.fld (.v 0) "around") .nil))) .nil)) (.fld (.v 1) "around")) .nil))))
  .nil)
   .nil)
 (.cons (.iff (.and (.cmp .Eq (.v 2) (.str "first")) (.cmp .Eq (.ix (.fld (.v 1) "program") (.int 0)) (.str "pair")))
   (.cons (.ret (.make "Bound" (.cons (.ix (.fld (.v 1) "program") (.int 1)) (.cons (.fld (.v 1) "around") .nil))))
  .nil)
   .nil)
 (.cons (.iff (.and (.cmp .Eq (.v 2) (.str "second")) (.cmp .Eq (.ix (.fld (.v 1) "program") (.int 0)) (.str "pair")))
   (.cons (.ret (.make "Bound" (.cons (.ix (.fld (.v 1) "program") (.int 2)) (.cons (.fld (.v 1) "around") .nil))))
  .nil)
   .nil)
 (.cons (.iff (.and (.cmp .Eq (.v 2) (.str "case")) (.cmp .In (.ix (.fld (.v 1) "program") (.int 0)) (.tup (.cons (.str "left") (.cons (.str "right") .nil)))))
   (.cons (.set 3 (.ite (.cmp .Eq (.ix (.fld (.v 1) "program") (.int 0)) (.str "left")) (.ix (.fld (.v 0) "program") (.int 2)) (.ix (.fld (.v 0) "program") (.int 3))))
  (.cons (.ret (.make "Bound" (.cons (.v 3) (.cons (.bin .Add (.tup (.cons (.make "Bound" (.cons (.ix (.fld (.v 1) "program") (.int 2)) (.cons (.fld (.v 1) "around") .nil))) .nil)) (.fld (.v 0) "around")) .nil))))
  .nil))
   .nil)
 (.cons (.ret .non)
 .nil))))))⟩
abbrev O3:Def:=⟨1,["bound","ahead","here","waiting"],
 (.cons (.set 1 (.lst (.cons (.v 0) .nil)))
 (.cons (.while (.cmp .Gt (.len (.v 1)) (.int 0))
   (.cons (.set 2 (.ix (.v 1) (.neg (.int 1))))
  (.cons (.set 3 (.comp ["one"] [] 1 (.n 0) (.seq (.call "names_bound" (.cons (.v 2) .nil))) (.isN (.fld (.v 0) "together")) (.v 0)))
  (.cons (.iff (.cmp .Gt (.len (.v 3)) (.int 0))
    (.cons (.ex (.ext (.v 1) (.v 3)))
   .nil)
    (.cons (.ex (.call "fill" (.cons (.pop (.v 1)) .nil)))
   .nil))
  .nil))))
 (.cons (.ret (.fld (.v 0) "together"))
 .nil)))⟩
abbrev aa3:Def:=⟨1,["bound","many","numbers"],
 (.cons (.set 1 (.len (.fld (.v 0) "around")))
 (.cons (.set 2 (.comp ["part","under"] [] 2 (.tup [0,1]) (.seq (.call "all_parts" (.cons (.fld (.v 0) "program") .nil))) (.cmp .Eq (.ix (.v 0) (.int 0)) (.str "name")) (.bin .Sub (.ix (.v 0) (.int 1)) (.v 1))))
 (.cons (.ret (.comp ["bound","many","number"] [0,1] 1 (.n 2) (.seq (.sset (.v 2))) (.and (.cmp .LtE (.int 0) (.v 2)) (.cmp .Lt (.v 2) (.v 1))) (.ix (.fld (.v 0) "around") (.v 2))))
 .nil)))⟩
abbrev ac6:Def:=⟨1,["bound","many","changed","!many","!bound","!"],
 (.cons (.set 1 (.len (.fld (.v 0) "around")))
 (.cons (.dfn 2 2 ["part","under","many","bound"] [1,0]
   (.cons (.iff (.or (.cmp .NotEq (.ix (.v 0) (.int 0)) (.str "name")) (.cmp .Lt (.ix (.v 0) (.int 1)) (.v 1)))
    (.cons (.ret .non)
   .nil)
    .nil)
  (.cons (.iff (.cmp .GtE (.bin .Sub (.ix (.v 0) (.int 1)) (.v 1)) (.v 2))
    (.cons (.ret (.tup (.cons (.str "name") (.cons (.bin .Sub (.ix (.v 0) (.int 1)) (.v 2)) .nil))))
   .nil)
    .nil)
  (.cons (.ret (.call "standing" (.cons (.ix (.fld (.v 3) "around") (.bin .Sub (.ix (.v 0) (.int 1)) (.v 1))) (.cons (.v 1) .nil))))
  .nil))))
 (.cons (.fldS (.v 0) "together" (.call "with_parts" (.cons (.fld (.v 0) "program") (.cons (.v 2) .nil))))
 (.cons (.fldS (.v 0) "has_names" (.or (.any (.comp ["one"] [] 1 (.n 0) (.seq (.call "names_bound" (.cons (.v 0) .nil))) .non (.fld (.v 0) "has_names"))) (.call "speaks_of_others" (.cons (.v 0) .nil))))
 .nil))))⟩
abbrev ab6:Def:=⟨2,["bound","under"],
 (.cons (.iff (.not (.fld (.v 0) "has_names"))
   (.cons (.ret (.fld (.v 0) "together"))
  .nil)
   .nil)
 (.cons (.iff (.cmp .NotIn (.v 1) (.fld (.v 0) "copies"))
   (.cons (.iput (.fld (.v 0) "copies") (.v 1) (.call "lifted" (.cons (.fld (.v 0) "together") (.cons (.v 1) (.cons (.int 0) .nil)))))
  .nil)
   .nil)
 (.cons (.ret (.ix (.fld (.v 0) "copies") (.v 1)))
 .nil)))⟩
abbrev Z9:Def:=⟨1,["bound","many","parts"],
 (.cons (.set 1 (.len (.fld (.v 0) "around")))
 (.cons (.set 2 (.call "all_parts" (.cons (.fld (.v 0) "program") .nil)))
 (.cons (.ret (.any (.comp ["many","part","under"] [1] 2 (.tup [1,2]) (.seq (.v 2)) .non (.and (.cmp .Eq (.ix (.v 1) (.int 0)) (.str "name")) (.cmp .GtE (.bin .Sub (.ix (.v 1) (.int 1)) (.v 2)) (.v 0))))))
 .nil)))⟩
abbrev ab3:Def:=⟨1,["program","reckoner"],
 (.cons (.set 1 (.make "Reckoner" (.cons (.v 0) .nil)))
 (.cons (.while (.notN (.fld (.v 1) "here"))
   (.cons (.ex (.meth (.v 1) "turn" .nil))
  .nil))
 (.cons (.ret (.fld (.v 1) "reckoned"))
 .nil)))⟩
abbrev w8:Def:=⟨1,["_law_script","_law_deck_here","_law_k","_law_cell","_law_j","_law_number"],
 (.cons (.set 1 (.lst .nil))
 (.cons (.for (.n 2) (.rng (.min (.int 63) (.len (.v 0))))
   (.cons (.set 3 (.ix (.v 0) (.v 2)))
  (.cons (.iff (.cmp .GtE (.v 3) (.bin .Pow (.int 10) (.int 18)))
    (.cons (.for (.n 4) (.rng (.int 60))
     (.cons (.iff (.cmp .Gt (.v 3) (.int 0))
      (.cons (.ex (.app (.v 1) (.bin .Mod (.v 3) (.int 720720))))
     (.cons (.set 3 (.bin .FloorDiv (.v 3) (.int 720720)))
     .nil))
      .nil)
    .nil))
   .nil)
    (.cons (.set 5 (.bin .Mod (.bin .Add (.bin .Add (.bin .Mult (.bin .Mod (.v 3) (.int 2147483629)) (.int 48271)) (.bin .Mult (.int 7919) (.v 2))) (.int 13)) (.int 2147483629)))
   (.cons (.set 5 (.bin .Mod (.bin .Add (.bin .Mult (.v 5) (.bin .Add (.bin .FloorDiv (.v 5) (.int 5)) (.int 16807))) (.bin .Mult (.int 69621) (.v 2))) (.int 2147483587)))
   (.cons (.ex (.ext (.v 1) (.lst (.cons (.bin .Mod (.v 5) (.int 720720)) (.cons (.bin .Mod (.bin .Mod (.bin .Mult (.v 5) (.int 40692)) (.int 2147483399)) (.int 720720)) .nil)))))
   .nil))))
  .nil)))
 (.cons (.for (.n 2) (.rng2 (.len (.v 1)) (.int 150))
   (.cons (.set 5 (.int 11))
  (.cons (.iff (.cmp .Gt (.len (.v 0)) (.int 0))
    (.cons (.set 5 (.bin .Mod (.ix (.v 0) (.bin .Mod (.v 2) (.min (.int 63) (.len (.v 0))))) (.int 2147483629)))
   .nil)
    .nil)
  (.cons (.set 5 (.bin .Mod (.bin .Add (.bin .Add (.bin .Mult (.v 5) (.int 48271)) (.bin .Mult (.int 7919) (.v 2))) (.int 13)) (.int 2147483629)))
  (.cons (.set 5 (.bin .Mod (.bin .Add (.bin .Mult (.v 5) (.bin .Add (.bin .FloorDiv (.v 5) (.int 5)) (.int 16807))) (.bin .Mult (.int 69621) (.v 2))) (.int 2147483587)))
  (.cons (.ex (.app (.v 1) (.bin .Mod (.bin .Mod (.bin .Mult (.v 5) (.int 40692)) (.int 2147483399)) (.int 720720))))
  .nil))))))
 (.cons (.ret (.sl (.v 1) .non (.int 150)))
 .nil))))⟩
abbrev ab4:Def:=⟨2,["_law_deck_here","_law_many_here"],
 (.cons (.iff (.cmp .Eq (.len (.v 0)) (.int 0))
   (.cons (.ret (.int 0))
  .nil)
   .nil)
 (.cons (.ret (.bin .Mod (.popAt (.v 0) (.int 0)) (.v 1)))
 .nil))⟩
abbrev ab7:Def:=⟨2,["_law_deck_here","_law_deep","_law_two","_law_way","_law_one"],
 (.cons (.set 2 (.tup (.cons (.str "either") (.cons (.tup (.cons (.str "one") .nil)) (.cons (.tup (.cons (.str "one") .nil)) .nil)))))
 (.cons (.set 3 (.call "_law_next" (.cons (.v 0) (.cons (.ix (.lst (.cons (.int 3) (.cons (.int 9) .nil))) (.toInt (.cmp .Gt (.v 1) (.int 0)))) .nil))))
 (.cons (.iff (.cmp .Lt (.v 3) (.int 3))
   (.cons (.ret (.ix (.lst (.cons (.tup (.cons (.str "one") .nil)) (.cons (.v 2) (.cons (.v 2) .nil)))) (.v 3)))
  .nil)
   .nil)
 (.cons (.iff (.cmp .Eq (.v 3) (.int 3))
   (.cons (.ret (.tup (.cons (.str "way") (.cons (.tup (.cons (.str "none") .nil)) (.cons (.v 2) .nil)))))
  .nil)
   .nil)
 (.cons (.iff (.cmp .Eq (.v 3) (.int 8))
   (.cons (.ret (.tup (.cons (.str "either") (.cons (.tup (.cons (.str "none") .nil)) (.cons (.call "_law_kind" (.cons (.v 0) (.cons (.bin .Sub (.v 1) (.int 1)) .nil))) .nil)))))
  .nil)
   .nil)
 (.cons (.set 4 (.call "_law_kind" (.cons (.v 0) (.cons (.bin .Sub (.v 1) (.int 1)) .nil))))
 (.cons (.ret (.tup (.cons (.ix (.lst (.cons (.str "either") (.cons (.str "both") (.cons (.str "way") (.cons (.str "both") .nil))))) (.bin .Sub (.v 3) (.int 4))) (.cons (.v 4) (.cons (.call "_law_kind" (.cons (.v 0) (.cons (.int 0) .nil))) .nil)))))
 .nil)))))))⟩
abbrev T8:Def:=⟨1,["_law_kind_here","_law_one","_law_other","_law_found","_law_turn"],
 (.cons (.iff (.cmp .In (.ix (.v 0) (.int 0)) (.tup (.cons (.str "none") (.cons (.str "one") .nil))))
   (.cons (.ret (.toInt (.cmp .Eq (.ix (.v 0) (.int 0)) (.str "one"))))
  .nil)
   .nil)
 (.cons (.set 1 (.call "_law_many" (.cons (.ix (.v 0) (.int 1)) .nil)))
 (.cons (.set 2 (.call "_law_many" (.cons (.ix (.v 0) (.int 2)) .nil)))
 (.cons (.iff (.cmp .Eq (.ix (.v 0) (.int 0)) (.str "either"))
   (.cons (.ret (.bin .Add (.v 1) (.v 2)))
  .nil)
   .nil)
 (.cons (.iff (.cmp .Eq (.ix (.v 0) (.int 0)) (.str "both"))
   (.cons (.ret (.bin .Mult (.v 1) (.v 2)))
  .nil)
   .nil)
 (.cons (.set 3 (.int 1))
 (.cons (.for (.n 4) (.rng (.v 1))
   (.cons (.set 3 (.bin .Mult (.v 3) (.v 2)))
  .nil))
 (.cons (.ret (.v 3))
 .nil))))))))⟩
abbrev J5:Def:=⟨1,["_law_kind_here"],
 (.cons (.iff (.cmp .Eq (.ix (.v 0) (.int 0)) (.str "one"))
   (.cons (.ret (.tup (.cons (.str "star") .nil)))
  .nil)
   .nil)
 (.cons (.iff (.cmp .Eq (.ix (.v 0) (.int 0)) (.str "both"))
   (.cons (.ret (.tup (.cons (.str "pair") (.cons (.call "_law_plain" (.cons (.ix (.v 0) (.int 1)) .nil)) (.cons (.call "_law_plain" (.cons (.ix (.v 0) (.int 2)) .nil)) .nil)))))
  .nil)
   .nil)
 (.cons (.iff (.and (.cmp .Eq (.ix (.v 0) (.int 0)) (.str "either")) (.cmp .Gt (.call "_law_many" (.cons (.ix (.v 0) (.int 1)) .nil)) (.int 0)))
   (.cons (.ret (.tup (.cons (.str "left") (.cons (.ix (.v 0) (.int 2)) (.cons (.call "_law_plain" (.cons (.ix (.v 0) (.int 1)) .nil)) .nil)))))
  .nil)
   .nil)
 (.cons (.iff (.cmp .Eq (.ix (.v 0) (.int 0)) (.str "either"))
   (.cons (.ret (.tup (.cons (.str "right") (.cons (.ix (.v 0) (.int 1)) (.cons (.call "_law_plain" (.cons (.ix (.v 0) (.int 2)) .nil)) .nil)))))
  .nil)
   .nil)
 (.cons (.iff (.cmp .Eq (.call "_law_many" (.cons (.ix (.v 0) (.int 1)) .nil)) (.int 0))
   (.cons (.ret (.tup (.cons (.str "way") (.cons (.ix (.v 0) (.int 1)) (.cons (.tup (.cons (.str "never") (.cons (.ix (.v 0) (.int 2)) (.cons (.tup (.cons (.str "name") (.cons (.int 0) .nil))) .nil)))) .nil)))))
  .nil)
   .nil)
 (.cons (.ret (.tup (.cons (.str "way") (.cons (.ix (.v 0) (.int 1)) (.cons (.call "_law_plain" (.cons (.ix (.v 0) (.int 2)) .nil)) .nil)))))
 .nil))))))⟩
abbrev ab2:Def:=⟨4,["_law_deck_here","_law_kind_here","_law_names","_law_room","_law_one"],
 (.cons (.iff (.cmp .Eq (.ix (.v 1) (.int 0)) (.str "one"))
   (.cons (.ret (.tup (.cons (.str "star") .nil)))
  .nil)
   .nil)
 (.cons (.iff (.cmp .Eq (.ix (.v 1) (.int 0)) (.str "both"))
   (.cons (.set 4 (.call "_law_term" (.cons (.v 0) (.cons (.ix (.v 1) (.int 1)) (.cons (.v 2) (.cons (.bin .FloorDiv (.v 3) (.int 2)) .nil))))))
  (.cons (.ret (.tup (.cons (.str "pair") (.cons (.v 4) (.cons (.call "_law_term" (.cons (.v 0) (.cons (.ix (.v 1) (.int 2)) (.cons (.v 2) (.cons (.bin .FloorDiv (.v 3) (.int 2)) .nil))))) .nil)))))
  .nil))
   .nil)
 (.cons (.iff (.and (.cmp .Eq (.ix (.v 1) (.int 0)) (.str "way")) (.cmp .Gt (.call "_law_many" (.cons (.ix (.v 1) (.int 1)) .nil)) (.int 0)))
   (.cons (.ret (.tup (.cons (.str "way") (.cons (.ix (.v 1) (.int 1)) (.cons (.call "_law_term" (.cons (.v 0) (.cons (.ix (.v 1) (.int 2)) (.cons (.bin .Add (.tup (.cons (.ix (.v 1) (.int 1)) .nil)) (.v 2)) (.cons (.bin .Sub (.v 3) (.int 1)) .nil))))) .nil)))))
  .nil)
   .nil)
 (.cons (.iff (.cmp .Eq (.ix (.v 1) (.int 0)) (.str "way"))
   (.cons (.ret (.tup (.cons (.str "way") (.cons (.ix (.v 1) (.int 1)) (.cons (.tup (.cons (.str "never") (.cons (.ix (.v 1) (.int 2)) (.cons (.tup (.cons (.str "name") (.cons (.int 0) .nil))) .nil)))) .nil)))))
  .nil)
   .nil)
 (.cons (.iff (.or (.cmp .Eq (.call "_law_many" (.cons (.ix (.v 1) (.int 2)) .nil)) (.int 0)) (.and (.cmp .Gt (.call "_law_many" (.cons (.ix (.v 1) (.int 1)) .nil)) (.int 0)) (.cmp .Eq (.call "_law_next" (.cons (.v 0) (.cons (.int 2) .nil))) (.int 0))))
   (.cons (.ret (.tup (.cons (.str "left") (.cons (.ix (.v 1) (.int 2)) (.cons (.call "_law_term" (.cons (.v 0) (.cons (.ix (.v 1) (.int 1)) (.cons (.v 2) (.cons (.bin .Sub (.v 3) (.int 1)) .nil))))) .nil)))))
  .nil)
   .nil)
 (.cons (.ret (.tup (.cons (.str "right") (.cons (.ix (.v 1) (.int 1)) (.cons (.call "_law_term" (.cons (.v 0) (.cons (.ix (.v 1) (.int 2)) (.cons (.v 2) (.cons (.bin .Sub (.v 3) (.int 1)) .nil))))) .nil)))))
 .nil))))))⟩
abbrev aa7:Def:=⟨4,["_law_deck_here","_law_kind_here","_law_names","_law_room","_law_way","_law_more","_law_half","_law_one","_law_other","_law_third","_law_yes"],
 (.cons (.set 4 (.call "_law_next" (.cons (.v 0) (.cons (.int 5) .nil))))
 (.cons (.set 5 (.call "_law_kind" (.cons (.v 0) (.cons (.bin .Sub (.int 1) (.toInt (.cmp .Lt (.v 3) (.int 6)))) .nil))))
 (.cons (.set 6 (.bin .FloorDiv (.bin .Sub (.v 3) (.int 1)) (.int 2)))
 (.cons (.iff (.cmp .Eq (.v 4) (.int 0))
   (.cons (.ret (.tup (.cons (.str "first") (.cons (.call "_law_term" (.cons (.v 0) (.cons (.tup (.cons (.str "both") (.cons (.v 1) (.cons (.v 5) .nil)))) (.cons (.v 2) (.cons (.bin .Sub (.v 3) (.int 1)) .nil))))) .nil))))
  .nil)
   .nil)
 (.cons (.iff (.cmp .Eq (.v 4) (.int 1))
   (.cons (.ret (.tup (.cons (.str "second") (.cons (.call "_law_term" (.cons (.v 0) (.cons (.tup (.cons (.str "both") (.cons (.v 5) (.cons (.v 1) .nil)))) (.cons (.v 2) (.cons (.bin .Sub (.v 3) (.int 1)) .nil))))) .nil))))
  .nil)
   .nil)
 (.cons (.iff (.cmp .Eq (.v 4) (.int 2))
   (.cons (.set 7 (.call "_law_term" (.cons (.v 0) (.cons (.tup (.cons (.str "way") (.cons (.v 5) (.cons (.v 1) .nil)))) (.cons (.v 2) (.cons (.v 6) .nil))))))
  (.cons (.ret (.tup (.cons (.str "give") (.cons (.v 7) (.cons (.call "_law_term" (.cons (.v 0) (.cons (.v 5) (.cons (.v 2) (.cons (.v 6) .nil))))) .nil)))))
  .nil))
   .nil)
 (.cons (.iff (.cmp .Eq (.v 4) (.int 3))
   (.cons (.set 7 (.call "_law_term" (.cons (.v 0) (.cons (.v 5) (.cons (.v 2) (.cons (.v 6) .nil))))))
  (.cons (.ret (.tup (.cons (.str "let") (.cons (.v 7) (.cons (.call "_law_term" (.cons (.v 0) (.cons (.v 1) (.cons (.bin .Add (.tup (.cons (.v 5) .nil)) (.v 2)) (.cons (.v 6) .nil))))) .nil)))))
  .nil))
   .nil)
 (.cons (.set 8 (.call "_law_kind" (.cons (.v 0) (.cons (.int 0) .nil))))
 (.cons (.set 9 (.bin .FloorDiv (.bin .Sub (.v 3) (.int 1)) (.int 3)))
 (.cons (.set 7 (.call "_law_term" (.cons (.v 0) (.cons (.tup (.cons (.str "either") (.cons (.v 5) (.cons (.v 8) .nil)))) (.cons (.v 2) (.cons (.v 9) .nil))))))
 (.cons (.set 10 (.call "_law_term" (.cons (.v 0) (.cons (.v 1) (.cons (.bin .Add (.tup (.cons (.v 5) .nil)) (.v 2)) (.cons (.v 9) .nil))))))
 (.cons (.ret (.tup (.cons (.str "case") (.cons (.v 7) (.cons (.v 10) (.cons (.call "_law_term" (.cons (.v 0) (.cons (.v 1) (.cons (.bin .Add (.tup (.cons (.v 8) .nil)) (.v 2)) (.cons (.v 9) .nil))))) .nil))))))
 .nil))))))))))))⟩
abbrev O6:Def:=⟨4,["_law_deck_here","_law_kind_here","_law_names","_law_room","_law_some","_law_form"],
 (.cons (.set 4 (.comp ["_law_kind_here","_law_names","_law_k"] [1,2] 1 (.n 2) (.rng (.len (.v 2))) (.cmp .Eq (.ix (.v 1) (.v 2)) (.v 0)) (.v 2)))
 (.cons (.set 5 (.call "_law_next" (.cons (.v 0) (.cons (.int 4) .nil))))
 (.cons (.iff (.and (.cmp .Gt (.len (.v 4)) (.int 0)) (.or (.cmp .Lt (.v 5) (.int 2)) (.cmp .Lt (.v 3) (.int 3))))
   (.cons (.ret (.tup (.cons (.str "name") (.cons (.ix (.v 4) (.call "_law_next" (.cons (.v 0) (.cons (.len (.v 4)) .nil)))) .nil))))
  .nil)
   .nil)
 (.cons (.iff (.cmp .Lt (.v 3) (.int 3))
   (.cons (.ret (.call "_law_plain" (.cons (.v 1) .nil)))
  .nil)
   .nil)
 (.cons (.iff (.cmp .Eq (.v 5) (.int 3))
   (.cons (.ret (.call "_law_taken" (.cons (.v 0) (.cons (.v 1) (.cons (.v 2) (.cons (.v 3) .nil))))))
  .nil)
   .nil)
 (.cons (.ret (.call "_law_made" (.cons (.v 0) (.cons (.v 1) (.cons (.v 2) (.cons (.v 3) .nil))))))
 .nil))))))⟩
abbrev aa8:Def:=⟨1,["_law_program","_law_form"],
 (.cons (.set 1 (.ix (.v 0) (.int 0)))
 (.cons (.iff (.cmp .In (.v 1) (.tup (.cons (.str "name") (.cons (.str "star") .nil))))
   (.cons (.ret (.lst .nil))
  .nil)
   .nil)
 (.cons (.iff (.cmp .In (.v 1) (.tup (.cons (.str "pair") (.cons (.str "give") .nil))))
   (.cons (.ret (.lst (.cons (.tup (.cons (.int 1) (.cons (.int 0) .nil))) (.cons (.tup (.cons (.int 2) (.cons (.int 0) .nil))) .nil))))
  .nil)
   .nil)
 (.cons (.iff (.cmp .In (.v 1) (.tup (.cons (.str "first") (.cons (.str "second") .nil))))
   (.cons (.ret (.lst (.cons (.tup (.cons (.int 1) (.cons (.int 0) .nil))) .nil)))
  .nil)
   .nil)
 (.cons (.iff (.cmp .In (.v 1) (.tup (.cons (.str "left") (.cons (.str "right") (.cons (.str "never") .nil)))))
   (.cons (.ret (.lst (.cons (.tup (.cons (.int 2) (.cons (.int 0) .nil))) .nil)))
  .nil)
   .nil)
 (.cons (.iff (.cmp .Eq (.v 1) (.str "way"))
   (.cons (.ret (.lst (.cons (.tup (.cons (.int 2) (.cons (.int 1) .nil))) .nil)))
  .nil)
   .nil)
 (.cons (.iff (.cmp .Eq (.v 1) (.str "let"))
   (.cons (.ret (.lst (.cons (.tup (.cons (.int 1) (.cons (.int 0) .nil))) (.cons (.tup (.cons (.int 2) (.cons (.int 1) .nil))) .nil))))
  .nil)
   .nil)
 (.cons (.ret (.lst (.cons (.tup (.cons (.int 1) (.cons (.int 0) .nil))) (.cons (.tup (.cons (.int 2) (.cons (.int 1) .nil))) (.cons (.tup (.cons (.int 3) (.cons (.int 1) .nil))) .nil)))))
 .nil))))))))⟩
abbrev ab8:Def:=⟨3,["_law_program","_law_many_here","_law_least","_law_found","_law_at","_law_more"],
 (.cons (.iff (.cmp .Eq (.ix (.v 0) (.int 0)) (.str "name"))
   (.cons (.ret (.tup (.cons (.str "name") (.cons (.bin .Add (.ix (.v 0) (.int 1)) (.bin .Mult (.v 1) (.toInt (.cmp .GtE (.ix (.v 0) (.int 1)) (.v 2))))) .nil))))
  .nil)
   .nil)
 (.cons (.set 3 (.list (.v 0)))
 (.cons (.for (.tup [4,5]) (.seq (.call "_law_under" (.cons (.v 0) .nil)))
   (.cons (.put (.v 3) (.v 4) (.call "_law_lift" (.cons (.ix (.v 0) (.v 4)) (.cons (.v 1) (.cons (.bin .Add (.v 2) (.v 5)) .nil)))))
  .nil))
 (.cons (.ret (.tuple (.v 3)))
 .nil))))⟩
abbrev ac1:Def:=⟨3,["_law_program","_law_other","_law_deep","_law_found","_law_at","_law_more"],
 (.cons (.iff (.and (.cmp .Eq (.ix (.v 0) (.int 0)) (.str "name")) (.cmp .Eq (.ix (.v 0) (.int 1)) (.v 2)))
   (.cons (.ret (.call "_law_lift" (.cons (.v 1) (.cons (.v 2) (.cons (.int 0) .nil)))))
  .nil)
   .nil)
 (.cons (.iff (.cmp .Eq (.ix (.v 0) (.int 0)) (.str "name"))
   (.cons (.ret (.tup (.cons (.str "name") (.cons (.bin .Sub (.ix (.v 0) (.int 1)) (.toInt (.cmp .Gt (.ix (.v 0) (.int 1)) (.v 2)))) .nil))))
  .nil)
   .nil)
 (.cons (.set 3 (.list (.v 0)))
 (.cons (.for (.tup [4,5]) (.seq (.call "_law_under" (.cons (.v 0) .nil)))
   (.cons (.put (.v 3) (.v 4) (.call "_law_put" (.cons (.ix (.v 0) (.v 4)) (.cons (.v 1) (.cons (.bin .Add (.v 2) (.v 5)) .nil)))))
  .nil))
 (.cons (.ret (.tuple (.v 3)))
 .nil)))))⟩
abbrev ab5:Def:=⟨1,["_law_program","_law_form"],
 (.cons (.set 1 (.ix (.v 0) (.int 0)))
 (.cons (.iff (.cmp .Eq (.v 1) (.str "let"))
   (.cons (.ret (.call "_law_put" (.cons (.ix (.v 0) (.int 2)) (.cons (.ix (.v 0) (.int 1)) (.cons (.int 0) .nil)))))
  .nil)
   .nil)
 (.cons (.iff (.and (.cmp .Eq (.v 1) (.str "give")) (.cmp .Eq (.ix (.ix (.v 0) (.int 1)) (.int 0)) (.str "way")))
   (.cons (.ret (.call "_law_put" (.cons (.ix (.ix (.v 0) (.int 1)) (.int 2)) (.cons (.ix (.v 0) (.int 2)) (.cons (.int 0) .nil)))))
  .nil)
   .nil)
 (.cons (.iff (.and (.cmp .In (.v 1) (.tup (.cons (.str "first") (.cons (.str "second") .nil)))) (.cmp .Eq (.ix (.ix (.v 0) (.int 1)) (.int 0)) (.str "pair")))
   (.cons (.ret (.ix (.ix (.v 0) (.int 1)) (.bin .Add (.int 1) (.toInt (.cmp .Eq (.v 1) (.str "second"))))))
  .nil)
   .nil)
 (.cons (.iff (.and (.cmp .Eq (.v 1) (.str "case")) (.cmp .Eq (.ix (.ix (.v 0) (.int 1)) (.int 0)) (.str "left")))
   (.cons (.ret (.call "_law_put" (.cons (.ix (.v 0) (.int 2)) (.cons (.ix (.ix (.v 0) (.int 1)) (.int 2)) (.cons (.int 0) .nil)))))
  .nil)
   .nil)
 (.cons (.iff (.and (.cmp .Eq (.v 1) (.str "case")) (.cmp .Eq (.ix (.ix (.v 0) (.int 1)) (.int 0)) (.str "right")))
   (.cons (.ret (.call "_law_put" (.cons (.ix (.v 0) (.int 3)) (.cons (.ix (.ix (.v 0) (.int 1)) (.int 2)) (.cons (.int 0) .nil)))))
  .nil)
   .nil)
 (.cons (.ret .non)
 .nil)))))))⟩
abbrev aa6:Def:=⟨1,["_law_program","_law_found","_law_at","_law_more"],
 (.cons (.set 1 (.call "_law_gone" (.cons (.v 0) .nil)))
 (.cons (.iff (.notN (.v 1))
   (.cons (.ret (.lst (.cons (.tup .nil) (.cons (.v 0) (.cons (.v 1) .nil)))))
  .nil)
   .nil)
 (.cons (.iff (.cmp .NotIn (.ix (.v 0) (.int 0)) (.tup (.cons (.str "give") (.cons (.str "first") (.cons (.str "second") (.cons (.str "case") (.cons (.str "never") .nil)))))))
   (.cons (.ret .non)
  .nil)
   .nil)
 (.cons (.set 2 (.bin .Add (.int 1) (.toInt (.cmp .Eq (.ix (.v 0) (.int 0)) (.str "never")))))
 (.cons (.set 3 (.call "_law_onward" (.cons (.ix (.v 0) (.v 2)) .nil)))
 (.cons (.iff (.isN (.v 3))
   (.cons (.ret .non)
  .nil)
   .nil)
 (.cons (.ret (.lst (.cons (.bin .Add (.tup (.cons (.int 0) .nil)) (.ix (.v 3) (.int 0))) (.cons (.ix (.v 3) (.int 1)) (.cons (.ix (.v 3) (.int 2)) .nil)))))
 .nil)))))))⟩
abbrev T7:Def:=⟨3,["_law_program","_law_depth","_law_other","_law_at"],
 (.cons (.iff (.cmp .Eq (.v 1) (.int 0))
   (.cons (.ret (.v 2))
  .nil)
   .nil)
 (.cons (.set 3 (.bin .Add (.int 1) (.toInt (.cmp .Eq (.ix (.v 0) (.int 0)) (.str "never")))))
 (.cons (.ret (.bin .Add (.bin .Add (.sl (.v 0) .non (.v 3)) (.tup (.cons (.call "_law_placed_in" (.cons (.ix (.v 0) (.v 3)) (.cons (.bin .Sub (.v 1) (.int 1)) (.cons (.v 2) .nil)))) .nil))) (.sl (.v 0) (.bin .Add (.v 3) (.int 1)) .non)))
 .nil)))⟩
abbrev ab0:Def:=⟨1,["_law_found"],
 (.cons (.ret (.and (.isT "int" (.v 0)) (.not (.isT "bool" (.v 0)))))
 .nil)⟩
abbrev U2:Def:=⟨1,["_law_script","_law_deck_here","_law_program","_law_stands","_law_found","_law_steps","_law_number","_law_most","_law_few"],
 (.cons (.set 1 (.call "_law_deck" (.cons (.v 0) .nil)))
 (.cons (.set 2 (.call "_law_term" (.cons (.v 1) (.cons (.call "_law_kind" (.cons (.v 1) (.cons (.int 2) .nil))) (.cons (.tup .nil) (.cons (.bin .Add (.int 4) (.call "_law_next" (.cons (.v 1) (.cons (.int 13) .nil)))) .nil))))))
 (.cons (.set 3 (.lst (.cons (.v 2) .nil)))
 (.cons (.set 4 (.call "_law_onward" (.cons (.v 2) .nil)))
 (.cons (.while (.and (.notN (.v 4)) (.cmp .LtE (.len (.v 3)) (.int 150)))
   (.cons (.ex (.app (.v 3) (.call "_law_placed_in" (.cons (.ix (.v 3) (.neg (.int 1))) (.cons (.len (.ix (.v 4) (.int 0))) (.cons (.ix (.v 4) (.int 2)) .nil))))))
  (.cons (.set 4 (.call "_law_onward" (.cons (.ix (.v 3) (.neg (.int 1))) .nil)))
  .nil)))
 (.cons (.iff (.notN (.v 4))
   (.cons (.ret (.bl AB))
  .nil)
   .nil)
 (.cons (.set 5 (.bin .Sub (.len (.v 3)) (.int 1)))
 (.cons (.set 6 (.call "steps_of" (.cons (.v 2) .nil)))
 (.cons (.iff (.or (.not (.call "_law_whole" (.cons (.v 6) .nil))) (.or (.cmp .NotEq (.v 6) (.v 5)) (.cmp .NotEq (.call "steps_of" (.cons (.ix (.v 3) (.bin .FloorDiv (.v 5) (.int 2))) .nil)) (.bin .Sub (.v 5) (.bin .FloorDiv (.v 5) (.int 2))))))
   (.cons (.ret (.bl AH))
  .nil)
   .nil)
 (.cons (.set 7 (.call "_law_next" (.cons (.v 1) (.cons (.bin .Add (.v 5) (.int 2)) .nil))))
 (.cons (.set 8 (.call "run" (.cons (.v 2) (.cons (.v 7) .nil))))
 (.cons (.iff (.or (.not (.isT "tuple" (.v 8))) (.or (.cmp .NotEq (.v 8) (.tup (.cons (.ix (.v 3) (.min (.v 7) (.v 5))) (.cons (.min (.v 7) (.v 5)) .nil)))) (.not (.call "_law_whole" (.cons (.ix (.v 8) (.int 1)) .nil)))))
   (.cons (.ret (.bl AH))
  .nil)
   .nil)
 (.cons (.ret (.and (.cmp .Eq (.calln "run" (.cons (.v 2) .nil)) (.tup (.cons (.ix (.v 3) (.neg (.int 1))) (.cons (.v 5) .nil)))) (.cmp .In (.ix (.ix (.v 3) (.neg (.int 1))) (.int 0)) (.tup (.cons (.str "star") (.cons (.str "pair") (.cons (.str "left") (.cons (.str "right") (.cons (.str "way") .nil)))))))))
 .nil)))))))))))))⟩
abbrev P3:List (Str×Def):=[(("Bound.__init__":Str),aa1),(("Runner.__init__":Str),aa0),(("Runner.turn":Str),O4),(("Runner.step":Str),O5),(("Reckoner.__init__":Str),Z8),(("Reckoner.turn":Str),J4),(("Reckoner.come_upon":Str),Z7),(("Reckoner.come_to":Str),J3),(("made_of_parts":Str),aa9),(("order_of_few":Str),ab9),(("taken":Str),ae9),(("inner":Str),af3),(("with_inner":Str),O8),(("names_more":Str),ac4),(("with_parts":Str),ac2),(("inner_under":Str),ac0),(("all_parts":Str),ab1),(("run":Str),U3),(("with_first":Str),aa5),(("behind_let":Str),aa4),(("behind_form":Str),aa2),(("put_together":Str),O3),(("names_bound":Str),aa3),(("fill":Str),ac6),(("standing":Str),ab6),(("speaks_of_others":Str),Z9),(("steps_of":Str),ab3),(("_law_deck":Str),w8),(("_law_next":Str),ab4),(("_law_kind":Str),ab7),(("_law_many":Str),T8),(("_law_plain":Str),J5),(("_law_made":Str),ab2),(("_law_taken":Str),aa7),(("_law_term":Str),O6),(("_law_under":Str),aa8),(("_law_lift":Str),ab8),(("_law_put":Str),ac1),(("_law_gone":Str),ab5),(("_law_onward":Str),aa6),(("_law_placed_in":Str),T7),(("_law_whole":Str),ab0),(("law":Str),U2)]
abbrev P8:f6:=λf=>P3.lookup f
abbrev l4:Gs:=⟨λg=>if g="INNER_FROM" then [("name",.int 2),("star",.int 1),("pair",.int 1),("first",.int 1),("second",.int 1),("left",.int 2),("right",.int 2),("case",.int 1),("way",.int 2),("give",.int 1),("let",.int 1),("never",.int 2)]else if g="UNDER_ONE_MORE" then [("case",.ktup [.inl 1,.inl 2]),("way",.ktup [.inl 0]),("let",.ktup [.inl 1])]else [],λc=>if c="!run" then "d"::AY 10000 "d" else if c="Bound" then ["program","around","together","copies","has_names","end","steps"]else if c="Runner" then ["here","forms","gone","most"]else if c="Reckoner" then ["here","waiting","reckoned","end","steps"]else [],λg=>if g="FEW" then AA (.int 2000)else if g="WITHIN" then AA (.ktup [.inr "give",.inr "first",.inr "second",.inr "case",.inr "never"])else AC⟩
end Ek
namespace Ek
open PySem L2
@[reducible]noncomputable def a83(K:AN)(cd:AG)(ts:List AI):Prop:=∃c P,cd=.ref c/\Cb K c P=AB/\P∈ts
abbrev FnA(K:AN)(ts:List AI)(m:Bool)(f:Str)(st:BV):Prop:=∃(fa:AI)(od an:Option AI)(sl:Array (Option AG))(oc kV dc pm cd ct:AG),
 BH K AO f=AA (AA (.ref fa))/\K.lookup fa=AA ⟨oc,od,.func (EM f f (u7 st) (u0 st) (j8 st) .none kV dc pm an cd ct),sl⟩/\Du K cd f=AB/\Bo K (.ref fa)=AB/\(m=AB->a83 K cd ts)
abbrev FnD(K:AN)(f:Str)(st:BV)(i:Int):Prop:=∃(fa T:AI)(od an td:Option AI)(sl tsl:Array (Option AG))(oc kV dc pm cd ct tc:AG)(tk:Tok)(n:Nat),
 BH K AO f=AA (AA (.ref fa))/\K.lookup fa=AA ⟨oc,od,.func (EM f f (u7 st) (u0 st) (j8 st) (.ref T) kV dc pm an cd ct),sl⟩/\Du K cd f=AB/\Bo K (.ref fa)=AB/\K.lookup T=AA ⟨tc,td,.seq #[.int i tk] n,tsl⟩
section
variable {K:AN} {ts:List AI} {f c m:Str} {st:BV} {fa Ca:AI} {od an:Option AI} {sl:Array (Option AG)} {oc kV dc pm cd ct:AG} {hc hp:AI}
def fnA(a1:BH K AO f=AA (AA (.ref fa)))(l1:K.lookup fa=AA ⟨oc,od,.func (EM f f (u7 st) (u0 st) (j8 st) .none kV dc pm an cd ct),sl⟩)(c1:Du K cd f=AB)(k1:Bo K (.ref fa)=AB):FnA K ts AH f st:=
 ⟨_,_,_,_,_,_,_,_,_,_,a1,l1,c1,k1,nofun⟩
def fnM(a1:BH K AO f=AA (AA (.ref fa)))(l1:K.lookup fa=AA ⟨oc,od,.func (EM f f (u7 st) (u0 st) (j8 st) .none kV dc pm an cd ct),sl⟩)(c1:Du K cd f=AB)(k1:Bo K (.ref fa)=AB)
  (h1:aj2 K cd=AA (hc,hp)) (h2:Cb K hc hp=AB) (h3:ts.contains hp=AB):FnA K ts AB f st:=
 ⟨_,_,_,_,_,_,_,_,_,_,a1,l1,c1,k1,λ_=>cd1 h1 h2 h3⟩
def fnD{i:Int}{tk:Tok}{T:AI}{td:Option AI}{tsl:Array (Option AG)}{tc:AG}{n:Nat}(a1:BH K AO f=AA (AA (.ref fa)))(l1:K.lookup fa=AA ⟨oc,od,.func (EM f f (u7 st) (u0 st) (j8 st) (.ref T) kV dc pm an cd ct),sl⟩)(c1:Du K cd f=AB)(k1:Bo K (.ref fa)=AB)(t1:K.lookup T=AA ⟨tc,td,.seq #[.int i tk] n,tsl⟩):FnD K f st i:=
 ⟨_,_,_,_,_,_,_,_,_,_,_,_,_,_,_,_,a1,l1,c1,k1,t1⟩
structure ClA(K:AN)(c:Str)(Ca:AI):Prop where
 a:BH K AO c=AA (AA (.ref Ca))
 cl:Cls K Ca
 ms:IB K Ca=AB
 kp:Bo K (.ref Ca)=AB
def clA(a1:BH K AO c=AA (AA (.ref Ca)))(a2:GE K Ca Str.empty=AB)(a3:Gu K Ca=AB)(a4:IZ K Ca=AB)(a5:BL K (.ref Ca) "__setattr__"=AA (AA (.builtin "object.__setattr__")))(a6:IB K Ca=AB)(a7:Bo K (.ref Ca)=AB):ClA K c Ca:=⟨a1,⟨a2,a3,a4,a5⟩,a6,a7⟩
abbrev MtA(K:AN)(ts:List AI)(b:Bool)(c:Str)(Ca:AI)(m:Str)(st:BV):Prop:=∃(fa:AI)(od an:Option AI)(sl:Array (Option AG))(oc kV dc pm cd ct:AG),
 BH K AO (c6 c m)=AA AC/\Meth K Ca m fa/\K.lookup fa=AA ⟨oc,od,.func (EM m (c6 c m) (u7 st) (u0 st) (j8 st) .none kV dc pm an cd ct),sl⟩/\Du K cd (c6 c m)=AB/\(b=AB->a83 K cd ts)
def mtA(a1:BH K AO (c6 c m)=AA AC)(a2:BL K (.ref Ca) m=AA (AA (.ref fa)))(a3:KH K (.ref fa)=AB)(a4:Bo K (.ref fa)=AB)
  (l1:K.lookup fa=AA ⟨oc,od,.func (EM m (c6 c m) (u7 st) (u0 st) (j8 st) .none kV dc pm an cd ct),sl⟩) (c1:Du K cd (c6 c m)=AB):MtA K ts AH c Ca m st:=⟨_,_,_,_,_,_,_,_,_,_,a1,⟨a2,a3,a4⟩,l1,c1,nofun⟩
end
def bdS{α:Type}{P:List α->Prop}{n}(h:∀a us,us.length=n->P (a::us)):∀us,us.length=n+1->P us:=λus hl=>by
 cases us with
 |nil=>cases hl
 |cons a us=>exact h a us (Gw hl)
def bdZ{α:Type}{P:List α->Prop}(h:P []):∀us,us.length=0->P us:=λus hl=>by
 grind
@[reducible]noncomputable def StF(st:BV)(d:Def)(f:Str):Prop:=Stat st d (d.N.take d.np) f f
@[reducible]noncomputable def StM(st:BV)(d:Def)(c m:Str):Prop:=Stat st d (d.N.take d.np) m (c6 c m)
section
variable [Tbs] {K:AN} {mg:Str->Option AG} {h:Heap} {f c m:Str} {d:Def} {st:BV} {Ca:AI} {b:Bool} {U:Str->List Str}
def FnA.ok(A:FnA K Tbs.ps b f st)(X:K.In h)(G:h.Ns AO mg)(S:StF st d f:=by exact⟨⟨⟨rfl,rfl,rfl,by decide+kernel,rfl,by decide+kernel,by decide+kernel⟩,rfl,by decide+kernel⟩,λ_ _ _ _ _ _=>by(repeat refine bdS λ_=>?_);exact bdZ rfl⟩)(hb:(d.N.contains n8=AB->b=AB):=by decide+kernel)(hdf:p6 U f=AC:=by decide+kernel):DefOk K mg (p6 U f) f d:=by
 obtain⟨fa,od,an,sl,oc,kV,dc,pm,cd,ct,a1,l1,c1,k1,m1⟩:=A;exact b69 X G S a1 l1 c1 k1 (λz=>m1 (hb z)) hdf
def FnD.ok{i:Int}{ps:List Str}(A:FnD K f st i)(X:K.In h)(G:h.Ns AO mg)(S:Stat0 st d ps)
  (hbn:∀(T:AI)(kV dc pm:AG)(an:Option AI)(cd ct:AG)(tk:Tok)(s:AL)(o:Obj)(n:Nat),s.heap.get? T=AA o->o.data=.seq #[.int i tk] n->(∀us:List AG,us.length=ps.length->Ib s (EM f f (u7 st) (u0 st) (j8 st) (.ref T) kV dc pm an cd ct) ⟨us,[]⟩ (ps.zip us))/\∀us:List AG,us.length+1=ps.length->Ib s (EM f f (u7 st) (u0 st) (j8 st) (.ref T) kV dc pm an cd ct) ⟨us,[]⟩ (ps.zip (us++[.int i tk])))
  (hdf:p6 U f=AA i) (hb:(d.N.contains n8=AH):=by decide+kernel):DefOk K mg (p6 U f) f d:=by
 obtain⟨fa,T,od,an,td,sl,tsl,oc,kV,dc,pm,cd,ct,tc,tk,n,a1,l1,c1,k1,t1⟩:=A;have e:=λs(hK:K.In s.heap)=>hbn T kV dc pm an cd ct tk s _ _ (hK _ _ t1) rfl;exact⟨fa,_,ps,⟨⟨st,f,⟨⟨_,_,_,_,_,_,_,_,_,_,rfl,l1,c1⟩,k1⟩,S⟩,λs us hK hl=>by
  rw[Be]at hl ⊢;exact(e s hK).1 us hl,λz=>by rw[hb]at z;cases z⟩,HL X G a1,a1,λj z=>by
  rw[hdf]at z;cases z;exact⟨tk,λs us hK hl=>(e s hK).2 us (by simpa using hl)⟩⟩
def MtA.ok(A:MtA K Tbs.ps b c Ca m st)(C:ClA K c Ca)(X:K.In h)(G:h.Ns AO mg)(S:StM st d c m:=by exact⟨⟨⟨rfl,rfl,rfl,by decide+kernel,rfl,by decide+kernel,by decide+kernel⟩,rfl,by decide+kernel⟩,λ_ _ _ _ _ _=>by(repeat refine bdS λ_=>?_);exact bdZ rfl⟩)(hb:(d.N.contains n8=AB->b=AB):=by decide+kernel)(hdf:p6 U (c6 c m)=AC:=by decide+kernel)(h1:isM c=AH:=by decide+kernel)(h2:isM m=AH:=by decide+kernel)(he:f=c6 c m:=by decide+kernel):∃c m,f=c6 c m/\isM c=AH/\isM m=AH/\MthOk K mg (p6 U (c6 c m)) c m d:=by
 obtain⟨fa,od,an,sl,oc,kV,dc,pm,cd,ct,a1,M,l1,c1,m1⟩:=A;subst he;exact⟨c,m,rfl,h1,h2,ce3 X G S a1 C.a C.cl M (λz=>by subst z;exact⟨C.ms,M.at_,M.fn,C.kp⟩) l1 c1 (λz=>m1 (hb z)) hdf⟩
end
def g5{α β:Type}{P:α->β->Prop}{a}{b}{l}(h:P a b)(t:∀f d,(f,d)∈l->P f d):∀f d,(f,d)∈(a,b)::l->P f d:=λf d hx=>(Ae.1 hx).elim λe=>by grind (t f d)
def a75{α β:Type}{P:α->β->Prop}:∀f d,(f,d)∈[]->P f d:=nofun
local macro_rules|`(tactic|rfl')=>do
 let l:=("a67 cp5 cc9 cz1 cq1 ch1 cc5 cg7 br8 b95 cr7 ci3 ct5 a68 a79 e_v a90 cl3 co5 cq5 cs5 cq9 b55 co0 ct1 ch3 ci9 cz4 cu1 cs8 bz7 bs0 bx2 cs1 bo3 bv1 b04 cf9 bo6 bq9 bv9 bu5 b45 br4 bo8 b60 cj5 bx7 ca7 bt7 cr2 a54 b02 cx7 bu1 cn2 b82 cs4 bl6 ao0 cu5 b47 cq2 cb3 cd4 Q6 b87 cm4 co6 cj6 by8 cs7 cq3 cd8 cn4 ca6 cb4 Q4 af1 co7 ci4 ca8 b83 cq7 ct6 cy7 cz8 cv9 cx0 ct7 ck4 ak5 cl8 cd6 ci2 b84 ct2 cu9 cy1 or_false false_or cb8 b79 cg0 b43 a40 b56 b24 cj0 cs3 cm2 co9 cr9 cm7 ah6 aj4 cm9 b06 ck0 cg9 ch8 cr6 ba3 cn5 cy5 cl5 cu3 cv5 cx8 cx2 cv4 a89 ce6 cs6 cj9 b38 bu2 bq4 b98 bt0 b61 a63 b89 bd2 be0 cj2 cg6 List.set_cons_zero List.set_cons_succ List.getElem?_cons_zero List.getElem?_cons_succ decide_eq_true_eq not_eq_true' decide_eq_false_iff_not if_true if_false true_and and_true false_eq_true Bool.true_eq_false length_cons length_nil String.reduceEq decide_true decide_false Bool.not_true Bool.not_false".splitOn " ").toArray.map fun n=>Lean.mkIdent n.toName
 `(tactic|try simp only[↓cz0,↓cw6,↓cy8,↓cz5,$[$l:ident],*])
set_option hygiene false
local macro_rules | `(tactic| ∎)=>`(tactic| ((try dsimp only);(first | refine u3 ?_ | rw [b85]);rfl'))
set_option hygiene true
variable{ds:List D}{f:Nat->Nat->Option Pg}{u m l g n r i j t H:Nat}{o x q v:Pg}{h a b cp ra fa h' ka wa:AI}{P:f6}{G:Gs}{st st' st1:Sto}{Q:DK}{L as:List AI}{M tg en:D}{Γ:List Kd}{σ:List Pg}{Q1:D->Prop}{env:c9}
structure PB0(P:f6):Prop where
 mixed:P "_law_mixed"=AA d_law_mixed
 deck:P "_law_deck"=AA d_law_deck
 next:P "_law_next"=AA d_law_next
 power:P "_law_power"=AA d_law_power
 count:P "_law_count"=AA d_law_count
 kind:P "_law_kind"=AA d_law_kind
structure PB(P:f6):Prop extends PB0 P where
 least:P "_law_least"=AA d_law_least
 made:P "_law_made"=AA d_law_made
 nest:P "_law_nest"=AA d_law_nest
 asked:P "_law_asked"=AA d_law_asked
 grown:P "_law_grown"=AA d_law_grown
 inner:P "_law_inner"=AA d_law_inner
 parts:P "_law_parts"=AA d_law_parts
 program:P "_law_program"=AA d_law_program
 names:P "_law_names"=AA d_law_names
abbrev Pg.withKids:Pg->List Pg->Pg
 |.pair a b,l=>match l with|[t,u]=>.pair t u|_=>.pair a b
 |.first a,l=>match l with|[t]=>.first t|_=>.first a
 |.second a,l=>match l with|[t]=>.second t|_=>.second a
 |.left b a,l=>match l with|[t]=>.left b t|_=>.left b a
 |.right b a,l=>match l with|[t]=>.right b t|_=>.right b a
 |.case a b c,l=>match l with|[t,u,v]=>.case t u v|_=>.case a b c
 |.way b a,l=>match l with|[t]=>.way b t|_=>.way b a
 |.give a b,l=>match l with|[t,u]=>.give t u|_=>.give a b
 |.lets a b,l=>match l with|[t,u]=>.lets t u|_=>.lets a b
 |.never b a,l=>match l with|[t]=>.never b t|_=>.never b a
 |.name n,_=>.name n
 |.star,_=>.star
def Pg.with_cases{motive:Pg->List Pg->Prop}(h0:∀n,motive (.name n) [])(h1:motive .star [])(h2:∀a b t u,motive (.pair a b) [t,u])(h3:∀a t,motive (.first a) [t])(h4:∀a t,motive (.second a) [t])
  (h5:∀k a t,motive (.left k a) [t]) (h6:∀k a t,motive (.right k a) [t]) (h7:∀a b c t u v,motive (.case a b c) [t,u,v]) (h8:∀k a t,motive (.way k a) [t]) (h9:∀a b t u,motive (.give a b) [t,u]) (h10:∀a b t u,motive (.lets a b) [t,u]) (h11:∀k a t,motive (.never k a) [t]) :
  ∀(p:Pg)(l:List Pg),l.length=p.kids.length->motive p l:=by
 intro p l h;cases p<;>simp only[Pg.kids,AS,Av]at h
 case name=>have:l=[]:=CG.mp h;subst this;exact h0 _
 case star=>have:l=[]:=CG.mp h;subst this;exact h1
 case pair=>
  obtain⟨a,b,rfl⟩:∃a b,l=[a,b]:=by match l,h with|[a,b],_=>exact⟨a,b,rfl⟩
  exact h2 _ _ _ _
 case give=>
  obtain⟨a,b,rfl⟩:∃a b,l=[a,b]:=by match l,h with|[a,b],_=>exact⟨a,b,rfl⟩
  exact h9 _ _ _ _
 case lets=>
  obtain⟨a,b,rfl⟩:∃a b,l=[a,b]:=by match l,h with|[a,b],_=>exact⟨a,b,rfl⟩
  exact h10 _ _ _ _
 case case=>
  obtain⟨a,b,c,rfl⟩:∃a b c,l=[a,b,c]:=by match l,h with|[a,b,c],_=>exact⟨a,b,c,rfl⟩
  exact h7 _ _ _ _ _ _
 case first=>
  obtain⟨a,rfl⟩:∃a,l=[a]:=by match l,h with|[a],_=>exact⟨a,rfl⟩
  exact h3 _ _
 case second=>
  obtain⟨a,rfl⟩:∃a,l=[a]:=by match l,h with|[a],_=>exact⟨a,rfl⟩
  exact h4 _ _
 case left=>
  obtain⟨a,rfl⟩:∃a,l=[a]:=by match l,h with|[a],_=>exact⟨a,rfl⟩
  exact h5 _ _ _
 case right=>
  obtain⟨a,rfl⟩:∃a,l=[a]:=by match l,h with|[a],_=>exact⟨a,rfl⟩
  exact h6 _ _ _
 case way=>
  obtain⟨a,rfl⟩:∃a,l=[a]:=by match l,h with|[a],_=>exact⟨a,rfl⟩
  exact h8 _ _ _
 case never=>
  obtain⟨a,rfl⟩:∃a,l=[a]:=by match l,h with|[a],_=>exact⟨a,rfl⟩
  exact h11 _ _ _
abbrev ci6:List (Str×D):=[("name",.int 2),("star",.int 1),("pair",.int 1),("first",.int 1),("second",.int 1),("left",.int 2),("right",.int 2),("case",.int 1),("way",.int 2),("give",.int 1),("let",.int 1),("never",.int 2)]
def aw4{lo hi:Option Int}:(p5 ds lo hi).length<=ds.length:=by
 unfold p5;rw[Bt,CB];lia
abbrev cn1:List (Str×D):=[("case",.ktup [.inl 1,.inl 2]),("way",.ktup [.inl 0]),("let",.ktup [.inl 1])]
abbrev Pg.mp(f:Nat->Nat->Option Pg):Nat->Pg->Pg
 |u,.name n=>(f n u).getD (.name n)
 |_,.star=>.star
 |u,.pair t v=>.pair (t.mp f u) (v.mp f u)
 |u,.first t=>.first (t.mp f u)
 |u,.second t=>.second (t.mp f u)
 |u,.left b t=>.left b (t.mp f u)
 |u,.right b t=>.right b (t.mp f u)
 |u,.case t v w=>.case (t.mp f u) (v.mp f (u+1)) (w.mp f (u+1))
 |u,.way b t=>.way b (t.mp f (u+1))
 |u,.give t v=>.give (t.mp f u) (v.mp f u)
 |u,.lets t v=>.lets (t.mp f u) (v.mp f (u+1))
 |u,.never b t=>.never b (t.mp f u)
abbrev Pg.chd(f:Nat->Nat->Option Pg):Nat->Pg->Bool
 |u,.name n=>(f n u).isSome
 |_,.star=>AH
 |u,.pair t v=>t.chd f u||v.chd f u
 |u,.first t=>t.chd f u
 |u,.second t=>t.chd f u
 |u,.left _ t=>t.chd f u
 |u,.right _ t=>t.chd f u
 |u,.case t v w=>t.chd f u||(v.chd f (u+1)||w.chd f (u+1))
 |u,.way _ t=>t.chd f (u+1)
 |u,.give t v=>t.chd f u||v.chd f u
 |u,.lets t v=>t.chd f u||v.chd f (u+1)
 |u,.never _ t=>t.chd f u
def Pg.mp_same(p:Pg):∀{u:Nat},p.chd f u=AH->p.mp f u=p:=by
 induction p with
 |name n=>intro u h;simp only[Pg.chd]at h;simp only[Pg.mp];cases e:f n u with|none=>rfl|some r=>rw[e]at h;cases h
 |star=>intro u _;rfl
 |pair t v iht ihv=>intro u h;simp only[Pg.chd,FQ]at h;simp only[Pg.mp,iht h.1,ihv h.2]
 |give t v iht ihv=>intro u h;simp only[Pg.chd,FQ]at h;simp only[Pg.mp,iht h.1,ihv h.2]
 |lets t v iht ihv=>intro u h;simp only[Pg.chd,FQ]at h;simp only[Pg.mp,iht h.1,ihv h.2]
 |case t v w iht ihv ihw=>intro u h;simp only[Pg.chd,FQ]at h;simp only[Pg.mp,iht h.1,ihv h.2.1,ihw h.2.2]
 |first t iht=>intro u h;simp only[Pg.mp,iht h]
 |second t iht=>intro u h;simp only[Pg.mp,iht h]
 |left b t iht=>intro u h;simp only[Pg.mp,iht h]
 |right b t iht=>intro u h;simp only[Pg.mp,iht h]
 |way b t iht=>intro u h;simp only[Pg.mp,iht h]
 |never b t iht=>intro u h;simp only[Pg.mp,iht h]
abbrev Pg.more:Pg->Nat->Nat
 |.case _ _ _,i=>if i=1\/i=2 then 1 else 0
 |.way _ _,i=>if i=0 then 1 else 0
 |.lets _ _,i=>if i=1 then 1 else 0
 |_,_=>0
abbrev Pg.kidsU(u:Nat)(p:Pg):List (Pg×Nat):=p.kids.mapIdx λi c=>(c,u+p.more i)
def Pg.mp_kids{p:Pg}(h:p.kids≠[]):p.mp f u=p.withKids ((p.kidsU u).map λc=>c.1.mp f c.2):=by
 cases p<;>first|rfl|exact absurd rfl h
def Pg.chd_kids{p:Pg}(h:p.kids≠[]):p.chd f u=((p.kidsU u).map λc=>c.1.chd f c.2).any id:=by
 cases p<;>first|exact absurd rfl h|(simp[Pg.chd,Pg.kidsU,Pg.kids,Pg.more,Br,BW])
def Pg.parts_U(p:Pg)(u:Nat):p.parts=1+((p.kidsU u).map λc=>c.1.parts).sum:=by
 cases p<;>simp[Pg.parts,Pg.kidsU,Pg.kids,Pg.more,Br,BW]<;>lia
def Pg.hgt_U(p:Pg)(u:Nat):∀c∈p.kidsU u,c.2+c.1.hgt<=u+p.hgt:=by
 cases p<;>simp[Pg.hgt,Pg.kidsU,Pg.kids,Pg.more,Br,BW]<;>lia
def Pg.mp_kn(hf:∀n u r,f n u=AA r->r.kn m)(p:Pg):∀{u:Nat},p.kn m->(p.mp f u).kn m:=by
 induction p with
 |name n=>intro u _;simp only[Pg.mp];cases e:f n u with|none=>trivial|some r=>exact hf n u r e
 |star=>intro u h;exact h
 |pair t v iht ihv=>exact λh=>⟨iht h.1,ihv h.2⟩
 |give t v iht ihv=>exact λh=>⟨iht h.1,ihv h.2⟩
 |lets t v iht ihv=>exact λh=>⟨iht h.1,ihv h.2⟩
 |case t v w iht ihv ihw=>exact λh=>⟨iht h.1,ihv h.2.1,ihw h.2.2⟩
 |first t iht=>exact λh=>iht h
 |second t iht=>exact λh=>iht h
 |left b t iht=>exact λh=>⟨h.1,iht h.2⟩
 |right b t iht=>exact λh=>⟨h.1,iht h.2⟩
 |way b t iht=>exact λh=>⟨h.1,iht h.2⟩
 |never b t iht=>exact λh=>⟨h.1,iht h.2⟩
abbrev lfF(m l n u:Nat):Option Pg:=if u+l<=n then AA (.name (n+m))else AC
abbrev Pg.lf(m l:Nat)(p:Pg):Pg:=p.mp (lfF m l) 0
abbrev sbF(o:Pg)(n u:Nat):Option Pg:=if n<u then AC else if n=u then AA (o.lf u 0)else AA (.name (n-1))
abbrev Pg.sb(p o:Pg):Pg:=p.mp (sbF o) 0
def cr4{k:Nat}{p:Pg}(h:p.kn k):(p.lf m l).kn k:=Pg.mp_kn (λn u r h=>by unfold lfF at h;split at h<;>cases h;trivial) p h
def cr8{k:Nat}{p:Pg}(ho:o.kn k)(h:p.kn k):(p.sb o).kn k:=Pg.mp_kn (λn u r h=>by
 unfold sbF at h
 split at h
 ·cases h
 ·split at h<;>cases h
  ·exact cr4 ho
  ·trivial) p h
def co4{g h:Nat->Nat->Option Pg}{a b c:Nat->Nat}(ha:∀u,a (u+1)=a u+1)(hb:∀u,b (u+1)=b u+1)(hc:∀u,c (u+1)=c u+1)
  (H:∀n u,((Pg.name n).mp f (a u)).mp g (b u)=(Pg.name n).mp h (c u)) (p:Pg):∀u,(p.mp f (a u)).mp g (b u)=p.mp h (c u):=by
 induction p with
 |name n=>exact H n
 |star=>intro u;rfl
 |pair t v iht ihv=>intro u;simp only[Pg.mp,iht u,ihv u]
 |give t v iht ihv=>intro u;simp only[Pg.mp,iht u,ihv u]
 |lets t v iht ihv=>intro u;simp only[Pg.mp,iht u];rw[<-ha,<-hb,<-hc,ihv]
 |case t v w iht ihv ihw=>intro u;simp only[Pg.mp,iht u];rw[<-ha,<-hb,<-hc,ihv,ihw]
 |first t iht=>intro u;simp only[Pg.mp,iht u]
 |second t iht=>intro u;simp only[Pg.mp,iht u]
 |left b t iht=>intro u;simp only[Pg.mp,iht u]
 |right b t iht=>intro u;simp only[Pg.mp,iht u]
 |way b t iht=>intro u;simp only[Pg.mp];rw[<-ha,<-hb,<-hc,iht]
 |never b t iht=>intro u;simp only[Pg.mp,iht u]
def bp4:(Pg.name n).mp (lfF m l) u=.name (if u+l<=n then n+m else n):=by
 simp only[Pg.mp,lfF];split<;>rfl
theorem al8:∀ds(i),(k7 i ds).length=ds.length
 |[],_=>rfl
 |_::ds,i=>by show(k7 (i+1) ds).length+1=ds.length+1;rw[al8 ds]
def bo4{ns:List Int}{lo hi:Option Int}:∃ms:List Int,p5 (ns.map D.int) lo hi=ms.map D.int/\ms.length<=ns.length:=by
 refine⟨(ns.drop (HT.sIx (ns.map D.int).length 0 lo)).take (HT.sIx (ns.map D.int).length (ns.map D.int).length hi-HT.sIx (ns.map D.int).length 0 lo),by unfold p5;rw[List.map_take,Jg],?_⟩;rw[Bt,CB];lia
def O7{lo:Int}:(l8 lo n).length=n:=by simp[l8]
def E5{α:Type}(l:List α):l=[]\/∃l' c,l=l'++[c]:=by
 rcases List.eq_nil_or_concat l with h|⟨l',c,h⟩
 ·exact .inl h
 ·exact .inr ⟨l',c,by simp_all⟩
abbrev y9(P:f6)(G:Gs)(n:Nat):D->Spec
 |.fn f=>sem P G n f
 |.clo np N b cs=>B8 P G n np N b cs
 |_=>λ_ _ _=>False
abbrev Cok(P:f6):D->Prop
 |.fn f=>(P f).isSome=AB
 |.clo _ _ _ _=>True
 |_=>False
def U8{ta}{x}(h:Cok P x)(q:ta st λds st1=>y9 P G n x ds st1 Q):N2 (Zg P G n) ta st Q x:=by
 cases x<;>first|exact h.elim|exact⟨h,q⟩|exact q
section
variable {T:Type} (subs:T->List T)
inductive Ord:List T->List T->Prop where
 |nil:Ord [] []
 |cons {S l:List T} {c:T}:Ord (S++subs c) l->Ord (S++[c]) (c::l)
inductive Rn:List T->List T->T->Prop where
 |done (t:T):Rn [] [t] t
 |step {h r:T} {l S:List T}:Rn l (S++[h]) r->Rn (h::l) (S++subs h) r
def b96{S l}(h:Ord subs S l):∀{l' S0}{r},Rn subs l' (S0++S) r->Rn subs (l.reverse++l') S0 r:=by
 induction h with
 |nil=>simp_all
 |@cons S l c _ ih=>
  intro l' S0 r q;rw[Dh,Bz];refine ih ?_;rw[<-Bz];refine .step ?_;rwa[Bz]
end
def none_of{p}(K:Kp [] st st')(h:st' p=AC):st p=AC:=by
 cases z:st p with
 |none=>rfl
 |some u=>rw[K.at' z ∎]at h;cases h
def aq9{W:Type}{J:W->Sto->Prop}{p:AI}{s:W}(K:Kp L st st')(hL:∀a∈L,∃o,st a=AA o)(h:st' p=AC)(Js:J s st')(hJL:∀{s st},J s st->∀a∈L,∃o,st a=AA o):st p=AC:=by
 cases z:st p with
 |none=>rfl
 |some u=>
  by_cases hp:p∈L
  ·obtain⟨o,e⟩:=hJL Js p hp;rw[h]at e;cases e
  ·rw[K.at' z hp]at h;cases h
abbrev W7(st st':Sto)(d:D)(xs:List D):Prop:=d=.tup xs\/∃a,d=.ref a/\st a=AC/\st' a=AA (.lst xs)
theorem az3{T:Type}(f:T->Nat):∀{l:List T}{c},c∈l->f c<=(l.map f).sum
 |a::l,c,h=>by
  rw[An,Fv]
  rcases Ae.mp h with rfl|h
  ·lia
  ·have:=az3 f h;lia
theorem ax6{T:Type}{size:T->Nat}{subs:T->List T}(hsz:∀t,size t=1+((subs t).map size).sum):∀l:List T,l.length<=(l.map size).sum
 |[]=>by simp
 |a::l=>by have:=hsz a;have:=ax6 hsz l;simp only[An,Fv,AS];lia
def bv0{T}{subs}{size}(hsz:∀t,size t=1+((subs t).map size).sum){l S}{r:T}(h:Rn subs l S r):(S.map size).sum<=size r:=by
 induction h with
 |done t=>simp
 |@step h r l S _ ih=>
  have:=hsz h;simp only[Al,Dv,An,Dx,Fv,KB]at ih ⊢;lia
structure PM(P:f6)(G:Gs):Prop where
 mop:P "made_of_parts"=AA aa9
 few:P "order_of_few"=AA ab9
 taken:P "taken"=AA ae9
 cst:G.cst "FEW"=AA (.int 2000)
section
variable (T0:PM P G) {T:Type} {enc:T->D} {subs:T->List T} {size:T->Nat} {Dk:T->Prop}
include T0
def ce2{J:Sto->Prop}(hJ:∀{st1 st2 dn},J st1->st dn=AC->dn∉L->Kp [dn] st1 st2->J st2)(j0:J st)(hJL:∀{st},J st->∀a∈L,∃o,st a=AA o)(hsz:∀t,size t=1+((subs t).map size).sum)(hg:∀t,Dk t->∀c∈subs t,Dk c){F:D}(hF:Cok P F)(t:T)(hs:size t<=2000)(hgt:Dk t)
  (hp:∀c st' Q,Dk c->J st'->Kp L st st'->(∀d st2,W7 st' st2 d ((subs c).map enc)->J st2->Kp L st' st2->Q d st2)->y9 P G n F [enc c] st' Q)
  (q:∀a st' l,st a=AC->Ord subs [t] l->(∀c∈l,Dk c)->st' a=AA (.lst (l.map λc=>.tup [enc c,.int (subs c).length]))->J st'->Kp L st st'->l.length<=size t->Q (.ref a) st'):sem P G (n+1) "order_of_few" [enc t,F] st Q:=by
 have inL:∀{p:AI},st p=AC->p∉L:=λ{p}hp z=>by
  obtain⟨o,e⟩:=hJL j0 p z;rw[hp]at e;cases e
 refine f7 T0.few rfl [AA (enc t),AA F,AC,AC,AC,AC] rfl ?_;unfold ab9;∎;intro o ho;∎;intro h hh;have hoh:o≠h:=k9 b8 hh;have hsh:st h=AC:=by
  cases z:st h with
  |none=>rfl
  |some u=>rw[j6 z ho]at hh;cases hh
 have hoL:=inL ho;have hhL:=inL hsh;∎;refine ap6 (λm env st'=>∃(dn S:List T)(x y:Option D),env=[AA (enc t),AA F,AA (.ref o),AA (.ref h),x,y]/\st' o=AA (.lst (dn.map λc=>.tup [enc c,.int (subs c).length]))/\st' h=AA (.lst (S.map enc))/\(∀l,Ord subs S l->Ord subs [t] (dn++l))/\(∀c∈dn,Dk c)/\(∀c∈S,Dk c)/\(S.map size).sum=m/\dn.length+m=size t/\J st'/\Kp L st st') ?_ _ _ _ ⟨[],[t],AC,AC,rfl,j6 b8 hh,b8,λl z=>z,∎,by simpa using hgt,rfl,∎,hJ (hJ j0 ho hoL (Kp.refl.new ho)) hsh hhL (Kp.refl.new hh),(Kp.refl.new ho).new hh⟩;rintro m env st' _ ⟨dn,S,x,y,rfl,h1,h2,h3,gd,gS,h4,h5,Js,K⟩ ih;rw[aw0];rfl';rw[o0 (.inl h2)];rfl'
 rcases E5 S with rfl|⟨S,c,rfl⟩
 ·rw[if_neg ∎];∎;refine b9 (q o st' dn ho ?_ gd h1 Js K ⋯);have:=h3 [] .nil;simpa using this
 ·rw[if_pos (by simp only[Al,An,Dx,AU,AX,AS,Av];lia)];rw[Al,An,Dx]at h2;simp only[Al,An,Dx,Dv,Fv,KB]at h4;have sc:=hsz c;have gc:Dk c:=gS c ∎;have hlen:∀l:List T,l.length<=(l.map size).sum:=λl=>by
   induction l with
   |nil=>simp
   |cons a l ih=>have:=hsz a;simp only[An,Fv,AS];lia
  have hl3:=hlen S;have hl4:=hlen (subs c);∎;rw[N4 h2];have h1':b7 st' h (.lst (S.map enc)) o=AA (.lst (dn.map λc=>.tup [enc c,.int (subs c).length])):=g8 h1 hoh;∎;refine U8 hF ?_;rfl';have K1:Kp L st (b7 st' h (.lst (S.map enc))):=λb u nb e=>g8 (K b u nb e) (λz=>by rw[z,hsh]at e;cases e);have J1:J (b7 st' h (.lst (S.map enc))):=hJ Js hsh hhL (Kp.refl.put ∎);refine hp c _ _ gc J1 K1 λd st2 hd Js2 K2=>?_;have o2:=K2.at' h1' hoL;have s2:=K2.at' (b8 (st:=st') (a:=h) (o:=.lst (S.map enc))) hhL;∎;rw[u1 (.inl o2)];have hlenR:∀{R:DK},R (.int (subs c).length) st2->G9 d st2 R:=λ{R}z=>by
   rcases hd with rfl|⟨a,rfl,_,ha⟩
   ·show R _ st2;simpa using z
   ·rw[o0 (.inl ha)];simpa using z
  refine⟨trivial,hlenR ?_⟩;rw[z5 o2];refine⟨B7 (by simp only[AX];lia),?_⟩;∎;have s3:b7 st2 o (.lst ((dn.map λc=>D.tup [enc c,.int (subs c).length])++[.tup [enc c,.int (subs c).length]])) h=AA (.lst (S.map enc)):=g8 s2 hoh.symm;rw[u1 (.inl s3)];have hext:∀{R:DK},R .non (b7 (b7 st2 o (.lst ((dn.map λc=>D.tup [enc c,.int (subs c).length])++[.tup [enc c,.int (subs c).length]]))) h (.lst (S.map enc++(subs c).map enc)))->O1 (.ref h) d (b7 st2 o (.lst ((dn.map λc=>D.tup [enc c,.int (subs c).length])++[.tup [enc c,.int (subs c).length]]))) R:=λ{R}z=>by
   rcases hd with rfl|⟨a,rfl,han,ha⟩
   ·rw[cl9 s3];exact⟨u8 (by simp only[AX];lia),z⟩
   ·have nao:a≠o:=λz=>by rw[z,h1']at han;cases han
    rw[ck7 s3 (g8 ha nao)];exact⟨u8 (by simp only[AX];lia),z⟩
  refine⟨trivial,hext ?_⟩;∎;rw[o0 (.inl (g8 b8 hoh))];rfl';refine⟨.int 2000,T0.cst,?_⟩;rfl';rw[if_neg (by simp only[AU,AX,AS,Av];lia)];rfl';refine ih ((S++subs c).map size).sum _ _ (by simp only[Al,Dv];lia) ⟨dn++[c],S++subs c,_,_,rfl,?_,?_,?_,?_,?_,rfl,?_,hJ (hJ Js2 ho hoL (Kp.refl.put ∎)) hsh hhL (Kp.refl.put ∎),?_⟩
  ·rw[Al];exact g8 b8 hoh
  ·rw[Al];exact b8
  ·intro l hl;have:=h3 (c::l) (.cons hl);simpa using this
  ·intro z hz
   rcases BR.mp hz with hz|hz
   ·exact gd z hz
   ·simp at hz;rw[hz];exact gc
  ·intro z hz
   rcases BR.mp hz with hz|hz
   ·exact gS z (by simp[hz])
   ·exact hg c gc z hz
  ·simp only[AU,AS,Av,Al,Dv];lia
  ·intro b u nb e;have eh:b≠h:=λz=>by rw[z,hsh]at e;cases e
   have eo:b≠o:=λz=>by rw[z,ho]at e;cases e
   exact g8 (g8 (K2.at' (K1 b u nb e) nb) eo) eh
def bm5{dn:AI}{xs:List D}(hm:xs.length=m)(hd:st dn=AA (.lst (ds++xs)))(hb:xs.length<=2000)
  (q:∀a st',st a=AC->a≠dn->st' a=AA (.lst xs)->st' dn=AA (.lst ds)->Kp [dn] st st'->Q (.ref a) st'):sem P G (n+1) "taken" [.ref dn,.int m] st Q:=by
 subst hm;refine f7 T0.taken rfl [AA (.ref dn),AA (.int xs.length),AC,AC] rfl ?_;unfold ae9;∎;intro o ho;have hod:dn≠o:=k9 hd ho;∎;refine⟨⟨⋯,⋯⟩,?_⟩;refine A7 (λl env st'=>∃(pre suf:List D)(x:Option D),xs=pre++suf/\l.length=pre.length/\(∀d∈l,∃i,d=.int i)/\env=[AA (.ref dn),AA (.int xs.length),AA (.ref o),x]/\st' dn=AA (.lst (ds++pre))/\st' o=AA (.lst suf.reverse)/\Kp [dn] st st') ?_ ?_ _ _ _ ⟨xs,[],AC,∎,by simp[l8],λd hd=>by simp[l8]at hd;obtain⟨i,_,rfl⟩:=hd;exact⟨_,rfl⟩,rfl,by rw[j6 hd ho],b8,Kp.refl.new ho⟩
 ·rintro env st' ⟨pre,suf,x,e,hl,_,rfl,h1,h2,K⟩;have:pre=[]:=by simpa using hl.symm
  subst this;simp only[Ed]at e;subst e;refine⟨trivial,?_⟩;∎;rw[ch0 h2];∎;refine b9 (q o _ ho (λz=>hod z.symm) ?_ (g8 (by simpa using h1) hod) λb u nb e=>g8 (K b u nb e) (λz=>by rw[z,ho]at e;cases e));rw[b8,List.reverse_reverse]
 ·rintro d0 dl env st' ih ⟨pre,suf,x,e,hl,hi,rfl,h1,h2,K⟩;obtain⟨i,rfl⟩:=hi d0 ∎
  rcases E5 pre with rfl|⟨pre,c,rfl⟩
  ·simp at hl
  refine⟨trivial,?_⟩;rfl';∎;rw[u1 (.inl h2),N4 (by rw[h1,Bz]:st' dn=AA (.lst ((ds++pre)++[c])))];have h2':b7 st' dn (.lst (ds++pre)) o=AA (.lst suf.reverse):=g8 h2 hod.symm;rw[z5 h2'];have hle:suf.length<=xs.length:=by rw[e];simp;lia
  refine⟨trivial,B7 (by rw[IM];lia),?_⟩;rfl';refine ih _ _ ⟨pre,c::suf,_,by rw[e];simp,by simp at hl ⊢;lia,λd hd=>hi d (by simp[hd]),rfl,g8 b8 hod,by rw[b8,Dh],λb u nb e=>g8 (g8 (K b u nb e) (λz=>nb (by simp[z]))) (λz=>by rw[z,ho]at e;cases e)⟩
abbrev KpN(L:List AI)(st st':Sto):Prop:=∀b o,b∉L->(∀c fs,o≠.ins c fs)->st b=AA o->st' b=AA o
def ay9{J:Sto->Prop}{L:List AI}(hJ:∀{st1 st2 dn},J st1->st dn=AC->dn∉L->Kp [dn] st1 st2->J st2)(j0:J st)(hJL:∀{st},J st->∀a∈L,∃o,st a=AA o)(hsz:∀t,size t=1+((subs t).map size).sum)(hg:∀t,Dk t->∀c∈subs t,Dk c){F:D}(hF:Cok P F)(hM:Cok P M)(t:T)(hs:size t<=2000)(hgt:Dk t){Y:AI->List T->List D->Sto->Prop}(hYL:∀{dn S ds st1},Y dn S ds st1->∀a∈L,∃o,st1 a=AA o)
  (hY0:∀dn st',st dn=AC->J st'->Kp L st st'->Y dn [] [] st') (hYk:∀{dn S ds st1 st2},st dn=AC->Y dn S ds st1->Kp [dn] st1 st2->Y dn S ds st2)
  (hp:∀c st' Q,Dk c->J st'->Kp L st st'->(∀d st2,W7 st' st2 d ((subs c).map enc)->J st2->Kp L st' st2->Q d st2)->y9 P G n F [enc c] st' Q)
  (hm:∀c dn la st' Q S ds xs,Dk c->Kp L st st'->st dn=AC->la∉L->la≠dn->st la=AC->st' la=AA (.lst xs)->xs.length=(subs c).length->ds.length=S.length->Y dn (S++subs c) (ds++xs) st'->st' dn=AA (.lst ds)->(S.map size).sum+size c<=size t->(∀d st2,Y dn (S++[c]) (ds++[d]) st2->KpN L st' st2->Kp L st st2->Q d st2)->y9 P G (n+1) M [enc c,.ref la] st' Q)
  (q:∀dn d st',st dn=AC->Y dn [t] [d] st'->Kp L st st'->Q d st'):sem P G (n+2) "made_of_parts" [enc t,F,M] st Q:=by
 refine f7 T0.mop rfl [AA (enc t),AA F,AA M,AC,AC,AC,AC] rfl ?_;∎;refine⟨by rw[T0.few];rfl,ce2 T0 (Dk:=λc=>Dk c/\size c<=2000) (J:=J) (L:=L) hJ j0 hJL hsz (λc gc c' hc'=>⟨hg c gc.1 c' hc',Ay (az3 size hc') (by have:=hsz c;lia)⟩) hF t hs ⟨hgt,hs⟩ (λc st' Q gc=>hp c st' Q gc.1) λoa st1 l hoa0 hord gl hoa Js1 K1 hl=>?_⟩;have hL:=hJL j0;∎;refine .inr ⟨nofun,?_⟩;intro dn hdn;have hod:oa≠dn:=k9 hoa hdn;have hdn0:st dn=AC:=by
  cases e:st dn with
  |none=>rfl
  |some u=>
   by_cases z:dn∈L
   ·obtain⟨o,e⟩:=hJL Js1 dn z;rw[hdn]at e;cases e
   ·rw[K1.at' e z]at hdn;cases hdn
 have hdL:dn∉L:=λz=>by obtain⟨o,e⟩:=hL dn z;rw[hdn0]at e;cases e
 have hoL:oa∉L:=λz=>by obtain⟨o,e⟩:=hL oa z;rw[hoa0]at e;cases e
 ∎;refine⟨_,.inl (j6 hoa hdn),?_⟩;rw[<-Iy];have kdn:∀(u:Ob)(st2:Sto),Kp L st st2->Kp L st (b7 st2 dn u):=λu st2 K b o nb e=>g8 (K b o nb e) (λz=>by rw[z,hdn0]at e;cases e);refine A7 (λll env st'=>∃(d7 S:List T)(ds:List D)(x5 x6:Option D),ll=d7.map (λc=>D.tup [enc c,.int (subs c).length])/\(∀c∈d7,Dk c/\size c<=2000)/\Rn subs d7 S t/\env=[AA (enc t),AA F,AA M,AA (.ref oa),AA (.ref dn),x5,x6]/\st' dn=AA (.lst ds)/\ds.length=S.length/\S.length+d7.length<=100000/\Y dn S ds st'/\st' oa=AA (.lst (l.map λc=>.tup [enc c,.int (subs c).length]))/\Kp L st st') ?_ ?_ _ _ _ ⟨l.reverse,[],[],AC,AC,rfl,λc hc=>gl c (by simpa using hc),by simpa using b96 subs hord (.done t) (S0:=[]) ,rfl,b8,rfl,by simp;lia,hY0 dn _ hdn0 (hJ Js1 hdn0 hdL (Kp.refl.new hdn)) (K1.new hdn),j6 hoa hdn,(K1.new hdn).more ∎⟩
 ·rintro env st' ⟨d7,S,ds,x5,x6,el,_,hr,rfl,hd,hl',_,hv,hoa',K⟩;have es:d7=[]:=by simpa using el.symm
  subst es;refine⟨.inl hoa',?_⟩;cases hr;obtain⟨d,rfl⟩:∃d,ds=[d]:=by match ds,hl' with|[d],_=>exact⟨d,rfl⟩
  ∎;rw[t3 (.inl hd)];exact⟨d,rfl,b9 (q dn d st' hdn0 hv K)⟩
 ·rintro d0 dl env st' ih ⟨d7,S,ds,x5,x6,el,hin,hr,rfl,hd,hl',hb,hv,hoa',K⟩;refine⟨.inl hoa',?_⟩;cases d7 with
  |nil=>simp at el
  |cons h d7=>
   simp only[An,Ax]at el;obtain⟨rfl,rfl⟩:=el;simp only[AS]at hb;have gh:Dk h:=(hin h ∎).1;cases hr with
   |@step _ _ _ S hr=>
   simp only[AU]at hl' hb;obtain⟨ds,xs,rfl,hlS,hlx⟩:∃ds' xs,ds=ds'++xs/\ds'.length=S.length/\xs.length=(subs h).length:=⟨ds.take S.length,ds.drop S.length,(Hr _ _).symm,by rw[Bt];lia,by rw[CB];lia⟩;have hss:(subs h).length<=2000:=by
    have h1:=(hin h ∎).2;have h2:=hsz h;have h3:=ax6 hsz (subs h);lia
   have main:∀la st2,la∉L->la≠dn->st la=AC->st2 la=AA (.lst xs)->st2 dn=AA (.lst ds)->Kp [dn] st' st2->y9 P G (n+1) M [enc h,.ref la] st2 λd st3=>T4 (.ref dn) d st3 λ_ st4=>p0 (λst'=>rdS st' oa (l.map λc=>.tup [enc c,.int (subs c).length])) (.tup [5,6]) (d8 (Zg P G (n+1)) (.cons (.ex (.app (.v 4) (.callv 2 (.cons (.v 5) (.cons (.ite (.cmp .Gt (.v 6) (.int 0)) (.call "taken" (.cons (.v 4) (.cons (.v 6) .nil))) (.lst .nil)) .nil))))) .nil)) ⟨d8 (Zg P G (n+1)) (.cons (.ret (.ix (.v 4) (.int 0))) .nil) (d9 Q),(d9 Q).rt,(d9 Q).bk,(d9 Q).ct⟩ (d7.map λc=>D.tup [enc c,.int (subs c).length]) [AA (enc t),AA F,AA M,AA (.ref oa),AA (.ref dn),AA (enc h),AA (.int (subs h).length)] st4:=λla st2 hla hne hl0 hl2 hd2 K2=>by
    have KK:Kp L st st2:=λb u nb e=>K2.at' (K b u nb e) (by simp;exact λz=>by rw[z,hdn0]at e;cases e);refine hm h dn la st2 _ S ds xs gh KK hdn0 hla hne hl0 hl2 hlx hlS (hYk hdn0 hv K2) hd2 (by have:=bv0 hsz hr;simpa using this) λd st3 vd N3 K3=>?_;have hd3:=N3 dn _ hdL (λ_ _ z=>by cases z) hd2;rw[z5 hd3];refine⟨B7 ⋯,?_⟩;exact ih _ _ ⟨d7,S++[h],ds++[d],_,_,rfl,λc hc=>hin c (by simp[hc]),hr,rfl,b8,by simp[hlS],by simp;lia,hYk hdn0 vd (Kp.refl.put ∎),g8 (N3 oa _ hoL (λ_ _ z=>by cases z) (K2.at' hoa' (by simpa using hod))) hod,kdn _ _ K3⟩
   have inL:∀{p:AI},st' p=AC->p∉L/\st p=AC:=λ{p}hp=>by
    by_cases z:p∈L
    ·obtain⟨o,e⟩:=hYL hv p z;rw[hp]at e;cases e
    ·refine⟨z,?_⟩;cases e:st p with
     |none=>rfl
     |some u=>rw[K.at' e z]at hp;cases hp
   rfl';∎;rw[u1 (.inl hd)];refine⟨trivial,U8 hM ?_⟩;rfl'
   by_cases h0:(subs h).length=0
   ·rw[if_neg ⋯];intro la hla;have exs:xs=[]:=Bs ⋯;subst exs;exact main la _ (inL hla).1 (k9 hd hla).symm (inL hla).2 b8 (j6 (by simpa using hd) hla) (Kp.refl.new hla)
   ·rw[if_pos ⋯];refine⟨by rw[T0.taken];rfl,?_⟩;exact bm5 T0 hlx hd ⋯ λla st2 hla hne hl2 hd2 K2=>main la st2 (inL hla).1 hne (inL hla).2 hl2 hd2 K2
def bw8{W:Type}{J:W->Sto->Prop}{le:W->W->Prop}{L:List AI}(lr:∀s,le s s)(lt:∀{s t u},le s t->le t u->le s u)(hJ:∀{s st st' dn},J s st->dn∉L->Kp [dn] st st'->J s st')(hsz:∀t,size t=1+((subs t).map size).sum)(hg:∀t,Dk t->∀c∈subs t,Dk c){F:D}(hF:Cok P F)(hM:Cok P M)(t:T)(hs:size t<=2000)(hgt:Dk t){V:AI->W->T->D->Sto->Prop}(hV:∀{dn s s' k d st st'},V dn s k d st->le s s'->Kp (dn::L) st st'->V dn s' k d st')
  {s0:W} {μ:W->Nat} {B:Nat} (hB:μ s0+size t<=B) (j0:J s0 st) (hJL:∀{s st},J s st->∀a∈L,∃o,st a=AA o)
  (hp:∀c st' Q s,Dk c->μ s+1<=B->J s st'->Kp L st st'->(∀d s' st2,W7 st' st2 d ((subs c).map enc)->le s s'->μ s'<=μ s->J s' st2->Kp L st' st2->Q d st2)->y9 P G n F [enc c] st' Q)
  (hm:∀c dn la st' Q ds s,Dk c->μ s+1<=B->J s st'->Kp L st st'->st dn=AC->la∉L->la≠dn->st la=AC->st' la=AA (.lst ds)->ds.length=(subs c).length->(∀(i:Nat)c' d,(subs c)[i]?=AA c'->ds[i]?=AA d->V dn s c' d st')->(∃xs,st' dn=AA (.lst xs))->(∀d s' st2,V dn s' c d st2->le s s'->μ s'<=μ s+1->J s' st2->Kp L st' st2->Q d st2)->y9 P G (n+1) M [enc c,.ref la] st' Q)
  (q:∀dn d s' st',st dn=AC->V dn s' t d st'->le s0 s'->μ s'<=B->J s' st'->Kp L st st'->Q d st'):sem P G (n+2) "made_of_parts" [enc t,F,M] st Q:=by
 refine ay9 T0 (J:=λst'=>∃s,J s st'/\le s0 s/\μ s<=μ s0) (L:=L) (λ⟨s,h1,h2⟩_ a b=>⟨s,hJ h1 a b,h2⟩) ⟨s0,j0,lr s0,AW _⟩ (λ⟨s,h,_⟩=>hJL h) hsz hg hF hM t hs hgt (Y:=λdn S ds st'=>∃s,J s st'/\le s0 s/\μ s<=μ s0+(S.map size).sum/\dn∉L/\∀(i:Nat)c d,S[i]?=AA c->ds[i]?=AA d->V dn s c d st') (λ⟨s,h,_⟩=>hJL h)
  (λdn st' h⟨s,a,b,c⟩_=>⟨s,a,b,c,(λz=>by obtain⟨o,e⟩:=hJL j0 dn z;rw[h]at e;cases e),nofun⟩) (λ_⟨s,a,b,c,d,e⟩K=>⟨s,hJ a d K,b,c,d,λi x y h1 h2=>hV (e i x y h1 h2) (lr s) (K.more ∎)⟩)
  (λc st' Q gc⟨s,a,b,e⟩K k=>hp c st' Q s gc (by have:=hsz t;lia) a K λd s' st2 h1 h2 h3 h4=>k d st2 h1 ⟨s',h4,lt b h2,⋯⟩)
  (λc dn la st' Q S ds xs gc K h0 h1 h2 h3 h4 h5 h6 hY h7 h8 k=>?_) λdn d st' h0⟨s,a,b,e,_,v⟩K=>q dn d s st' h0 (v 0 t d rfl rfl) b (by simp at e;lia) a K
 obtain⟨s,a,b,e,dL,v⟩:=hY;have sc:=hsz c;rw[Al,Dv]at e;refine hm c dn la st' Q xs s gc ⋯ a K h0 h1 h2 h3 h4 h5 (λi c' d e1 e2=>v (S.length+i) c' d (by rw[Ad ⋯,Ej];exact e1) (by rw[Ad ⋯,h6,Ej];exact e2)) ⟨_,h7⟩ λd s' st2 vd hle hμ Js K2=>k d st2 ⟨s',Js,lt b hle,by simp only[Al,An,Dx,Dv,Fv,KB];lia,dL,λi c' d' e1 e2=>?_⟩ (λb o nb _ e=>K2 b o nb e) (K.trans K2)
 by_cases hi:i<S.length
 ·rw[Aj hi]at e1;rw[Aj ⋯]at e2;exact hV (v i c' d' (by rw[Aj hi];exact e1) (by rw[Aj ⋯];exact e2)) hle (K2.more (by intro x hx;simp[hx]))
 ·rw[Ad ⋯]at e1;rw[Ad ⋯]at e2;have hi0:i-S.length=0:=by
   have:=(Ac.mp e1).1;simp at this;lia
  rw[hi0]at e1;rw[show i-ds.length=0 by lia]at e2;cases e1;cases e2;exact vd
end
structure PIn(P:f6)(G:Gs):Prop where
 inner:P "inner"=AA af3
 more:P "names_more"=AA ac4
 tab:G.tab "INNER_FROM"=ci6
 tab2:G.tab "UNDER_ONE_MORE"=cn1
structure PNm(P:f6)(G:Gs):Prop extends PM P G,PIn P G where
 winner:P "with_inner"=AA O8
 wparts:P "with_parts"=AA ac2
 under:P "inner_under"=AA ac0
abbrev j9(c:Pg×Nat):D:=.tup [c.1.d,.int c.2]
abbrev G7(f:Nat->Nat->Option Pg):Pg->Nat->D
 |.name n,u=>match f n u with
  |some r=>r.d
  |none=>.non
 |_,_=>.non
def ag4{p:Pg}:p.d≠.non:=by cases p<;>exact nofun
def bo9{p:Pg}(h:G7 f p u≠.non):p.kids=[]:=by
 cases p<;>first|rfl|exact absurd rfl h
def bn6{p:Pg}(h:p.kids=[]):(G7 f p u=.non/\p.mp f u=p/\p.chd f u=AH)\/(G7 f p u=(p.mp f u).d/\p.chd f u=AB):=by
 cases p<;>first|(cases h;done)|skip
 case name n=>
  simp only[G7,Pg.mp,Pg.chd];cases f n u with
  |none=>exact .inl ⟨rfl,rfl,rfl⟩
  |some r=>exact .inr ⟨rfl,rfl⟩
 case star=>exact .inl ⟨rfl,rfl,rfl⟩
section
variable (J:PIn P G) 
include J
def U4(p:Pg)(q:∀a,st a=AC->Q (.ref a) (b7 st a (.lst (p.kids.map Pg.d)))):sem P G (n+1) "inner" [p.d] st Q:=by
 refine f7 J.inner rfl [AA p.d] rfl ?_;cases p<;>simp only[Pg.d]
 all_goals
  ∎;refine⟨by show G.tab "INNER_FROM"≠[];rw[J.tab];exact λz=>(by cases z),?_⟩;simp only[J.tab];refine⟨_,rfl,_,rfl,∅,λa ha=>b9 (q a ha)⟩
def bq7(p:Pg)(i:Nat)(q:Q (.int (p.more i:Nat)) st):sem P G (n+1) "names_more" [p.d,.int i] st Q:=by
 refine f7 J.more rfl [AA p.d,AA (.int i)] rfl ?_;cases p<;>simp only[Pg.d]
 all_goals
  ∎;refine⟨by show G.tab "UNDER_ONE_MORE"≠[];rw[J.tab2];exact λz=>(by cases z),?_⟩;simp only[J.tab2];refine⟨_,rfl,?_⟩
 case case=>
  show i6 .In (.int i) (.ktup [.inl 1,.inl 2]) _ _;rw[al5];rfl'
  by_cases h:i=1\/i=2
  ·rw[if_pos (by simp;lia)];simp only[Pg.more,if_pos h]at q;exact b9 q
  ·rw[if_neg (by simp;lia)];simp only[Pg.more,if_neg h]at q;exact b9 q
 case way=>
  show i6 .In (.int i) (.ktup [.inl 0]) _ _;rw[al5];rfl'
  by_cases h:i=0
  ·rw[if_pos (by simp;lia)];simp only[Pg.more,if_pos h]at q;exact b9 q
  ·rw[if_neg (by simp;lia)];simp only[Pg.more,if_neg h]at q;exact b9 q
 case lets=>
  show i6 .In (.int i) (.ktup [.inl 1]) _ _;rw[al5];rfl'
  by_cases h:i=1
  ·rw[if_pos (by simp;lia)];simp only[Pg.more,if_pos h]at q;exact b9 q
  ·rw[if_neg (by simp;lia)];simp only[Pg.more,if_neg h]at q;exact b9 q
 all_goals
  show i6 .In (.int i) (.tup []) _ _;refine⟨rfl,rfl,Ao _,?_⟩;rfl';exact b9 q
end
section
variable (J:PNm P G) 
include J
def ar5{p:Pg}{l:List Pg}(h:rdS st a (l.map Pg.d))(hl:l.length=p.kids.length)(h0:p.kids≠[])(q:Q (p.withKids l).d st):sem P G (n+1) "with_inner" [p.d,.ref a] st Q:=by
 refine f7 J.winner rfl [AA p.d,AA (.ref a)] rfl ?_;unfold O8;revert h0 h q;refine Pg.with_cases (motive:=λp l=>rdS st a (l.map Pg.d)->p.kids≠[]->Q (p.withKids l).d st->d8 (Zg P G n) O8.body (d9 Q) [AA p.d,AA (.ref a)] st) ?_ ?_ ?_ ?_ ?_ ?_ ?_ ?_ ?_ ?_ ?_ ?_ p l hl
 ·intro k h h0 q;exact absurd rfl h0
 ·intro h h0 q;exact absurd rfl h0
 all_goals
  intros
  rename_i h h0 q;simp only[Pg.d,O8];∎;refine⟨by show G.tab "INNER_FROM"≠[];rw[J.tab];exact λz=>(by cases z),?_⟩;simp only[J.tab];refine⟨_,rfl,_,rfl,∅,?_⟩;rw[au7 h];rfl';exact⟨u8 (Ay (Nat.add_le_add_right aw4 _) (by simp only[AS,Av,AX];decide)),b9 q⟩
def aq6(p:Pg)(u:Nat)(hn:2<=n)(q:∀a st',st a=AC->st' a=AA (.lst ((p.kidsU u).map j9))->Kp [] st st'->Q (.ref a) st'):sem P G n "inner_under" [j9 (p,u)] st Q:=by
 obtain⟨n,rfl⟩:∃m,n=m+2:=⟨n-2,⋯⟩;refine f7 J.under rfl [AA (j9 (p,u)),AC] rfl ?_;unfold ac0 j9;(iterate 2 ∎);refine⟨by rw[J.inner];rfl,U4 J.toPIn p λa ha=>?_⟩;rfl';refine⟨_,.inl b8,by rw[al8,AX];cases p<;>simp only[Pg.kids,AS,Av]<;>decide,?_⟩;refine D0 (λl acc env' st'=>st'=b7 st a (.lst (p.kids.map Pg.d))/\∃(pre suf:List Pg)(x y:Option D),p.kids=pre++suf/\l=k7 pre.length (suf.map Pg.d)/\env'=[AA (.tup [p.d,.int u]),AA p.d,x,y]/\acc=(pre.mapIdx λi c=>j9 (c,u+p.more i))) ?_ ?_ _ _ _ _ ⟨rfl,[],p.kids,AC,AC,rfl,rfl,rfl,rfl⟩
 ·rintro acc env' st' ⟨rfl,pre,suf,x,y,ek,el,rfl,rfl⟩;refine⟨.inl b8,λb hb=>b9 (q b _ ?_ ?_ ((Kp.refl.new ha).new hb))⟩
  ·exact none_of (Kp.refl.new ha) hb
  ·cases suf with
   |cons c suf=>simp[k7]at el
   |nil=>
    rw[Be]at ek;rw[b8,<-ek];unfold Pg.kidsU;exact congrArg (λl=>AA (Ob.lst l)) (GA λi=>by simp only[Aw,List.getElem?_mapIdx,Option.map_map];rfl)
 ·rintro d ds acc env' st' ih ⟨rfl,pre,suf,x,y,ek,el,rfl,rfl⟩;refine⟨.inl b8,?_⟩;cases suf with
  |nil=>simp[k7]at el
  |cons c suf=>
   simp only[An,k7,Ax]at el;obtain⟨rfl,rfl⟩:=el;rfl';refine⟨by rw[J.more];rfl,bq7 J.toPIn p pre.length ?_⟩;rfl';refine ih _ _ _ ⟨rfl,pre++[c],suf,_,_,by rw[ek];simp,∎,rfl,?_⟩;rw[List.mapIdx_append];simp[j9]
end
theorem ae3{chk:Sto->Prop}{tc:DB}{te:DT}{R:List D->Sto->Prop}{f:D->D}(Ok:c9->Prop){M:List D}(hset:∀env d,Ok env->Ok (env.set i (AA d)))(htc:∀env K,K AB st->tc env st K)(hte:∀env d K,d∈M->Ok env->K (f d) st->te (env.set i (AA d)) st K)(hc:chk st):
  ∀(ds acc:List D)(env:c9),(∀d∈ds,d∈M)->Ok env->R (acc++ds.map f) st->t0 chk (.n i) tc te R ds acc env st
 |[],acc,env,_,hE,hR=>by rw[ap7];exact⟨hc,by simpa using hR⟩
 |d::ds,acc,env,hM,hE,hR=>by
  rw[ap4,a63];refine⟨hc,htc _ _ ?_⟩;rw[if_pos rfl];exact hte env d _ (hM d ∎) hE (ae3 Ok hset htc hte hc ds (acc++[f d]) _ (λx hx=>hM x (by simp[hx])) (hset env d hE) (by simpa using hR))
def b49{T:Type}{l:List T}{g:T->D}(hl:ds.length=l.length)(hv:∀(i:Nat)c d,l[i]?=AA c->ds[i]?=AA d->d=g c):ds=l.map g:=by
 refine GA λi=>?_;rw[Aw]
 by_cases h:i<l.length
 ·rw[AM h,AM (show i<ds.length by lia)];exact congrArg AA (hv i _ _ (AM h) (AM ⋯))
 ·rw[FG ⋯,FG ⋯];rfl
section
variable (J:PNm P G) 
include J
def bi7{C:D}{f:Nat->Nat->Option Pg}{L:List AI}{Jv:Sto->Prop}{Hd:Pg->Nat->Prop}(hHd:∀c u,Hd c u->∀c'∈c.kidsU u,Hd c'.1 c'.2)(hC:Cok P C)(hJ:∀{st st':Sto}{K:List AI},Jv st->(∀a∈L,a∉K)->Kp K st st'->Jv st')(hJL:∀{st},Jv st->∀a∈L,∃o,st a=AA o){p:Pg}(hp:p.parts<=2000)(hm:p.hgt<=m)(h0:Hd p 0)(hn:6<=n)(j0:Jv st)
  (hc:∀(k:Nat)(c:Pg)(u:Nat)st' Q,n<=k+4->u+c.hgt<=m->Hd c u->Jv st'->Kp L st st'->(∀st2,Jv st2->Kp L st' st2->Q (G7 f c u) st2)->y9 P G k C [c.d,.int u] st' Q)
  (q:∀st',Jv st'->Kp L st st'->Q (p.mp f 0).d st'):sem P G n "with_parts" [p.d,C] st Q:=by
 obtain⟨n,rfl⟩:∃m,n=m+4:=⟨n-4,⋯⟩;have jn:∀{st:Sto}{a:AI}{o:Ob},Jv st->st a=AC->Jv (b7 st a o):=λh ha=>hJ (K:=[]) h ∎ (Kp.refl.new ha);refine f7 J.wparts rfl [AA p.d,AA C,AC,AC,AC,AC] rfl ?_;unfold ac2;(iterate 3 ∎);refine⟨by rw[J.mop];rfl,?_⟩;refine bw8 J.toPM (n:=n+1) (T:=Pg×Nat) (enc:=j9) (subs:=λc=>c.1.kidsU c.2) (size:=λc=>c.1.parts) (Dk:=λc=>c.2+c.1.hgt<=m/\Hd c.1 c.2) (W:=Unit) (J:=λ_=>Jv) (le:=λ_ _=>True) (L:=L) (λ_=>trivial) (λ_ _=>trivial) (λ{_ _ _ dn}h hd K=>hJ h (λa ha z=>by simp at z;subst z;exact hd ha) K) (λc=>Pg.parts_U c.1 c.2) (λc gc c' hc'=>⟨Ay (Pg.hgt_U c.1 c.2 c' hc') gc.1,hHd _ _ gc.2 c' hc'⟩) (show Cok P (.clo _ _ _ _) from trivial) (show Cok P (.clo _ _ _ _) from trivial) (p,0) hp ⟨by show 0+p.hgt<=m;lia,h0⟩ (V:=λ_ _ c d _=>d=.tup [(c.1.mp f c.2).d,.bl (c.1.chd f c.2)]) (λv _ _=>v) (s0:=()) (μ:=λ_=>0) (B:=2000) (by show 0+p.parts<=2000;lia) j0 hJL ?_ ?_ ?_
 ·rintro⟨c,u⟩ st' Q _ gc _ Js K k;refine V6 rfl [AA (j9 (c,u)),AA C] rfl ?_;∎;refine U8 hC ?_;unfold j9;rfl';refine hc n c u st' _ ⋯ gc.1 gc.2 Js K λst2 J2 K2=>?_
  by_cases hz:G7 f c u=.non
  ·refine .inl ⟨hz,?_⟩;rfl';refine⟨by rw[J.under];rfl,aq6 J c u ⋯ λa st3 ha h3 K3=>b9 (k _ () _ (.inr ⟨a,rfl,?_,h3⟩) trivial (AW _) (hJ (K:=[]) J2 ∎ K3) (K2.trans (K3.more ∎)))⟩;exact aq9 (J:=λ(_:Unit)=>Jv) (s:=()) K2 (hJL Js) ha J2 hJL
  ·refine .inr ⟨hz,?_⟩;rfl';intro a ha;have hk:c.kidsU u=[]:=by unfold Pg.kidsU;rw[bo9 hz];rfl
   refine b9 (k _ () _ (.inr ⟨a,rfl,aq9 (J:=λ(_:Unit)=>Jv) (s:=()) K2 (hJL Js) ha J2 hJL,?_⟩) trivial (AW _) (jn J2 ha) (K2.new ha));rw[b8,hk];rfl
 ·rintro⟨c,u⟩ dn la st' Q ds _ gc _ Js K hdn hlaL hne hl0 hla hlen hv hx k;have eds:ds=(c.kidsU u).map λc=>D.tup [(c.1.mp f c.2).d,.bl (c.1.chd f c.2)]:=b49 hlen hv;refine V6 rfl [AA (j9 (c,u)),AA (.ref la),AA C,AC] rfl ?_;have fin:∀(x:D)(st2:Sto),(x=.non/\c.mp f u=c/\c.chd f u=AH\/x=(c.mp f u).d/\c.chd f u=AB)->Jv st2->Kp L st' st2->d8 (Zg P G (n+1)) (.cons (.ret (.ite (.isN (.v 3)) (.tup (.cons (.ix (.v 0) (.int 0)) (.cons (.bl AH) .nil))) (.tup (.cons (.v 3) (.cons (.bl AB) .nil))))) .nil) (d9 Q) [AA (j9 (c,u)),AA (.ref la),AA C,AA x] st2:=by
   intro x st2 hx2 J2 K2;unfold j9;∎
   rcases hx2 with⟨rfl,e1,e2⟩|⟨rfl,e2⟩
   ·refine .inl ⟨rfl,?_⟩;rfl';exact b9 (k _ () _ (by simp only[e1,e2]) trivial (Ao _) J2 K2)
   ·refine .inr ⟨ag4,?_⟩;rfl';exact b9 (k _ () _ (by simp only[e2]) trivial (Ao _) J2 K2)
  have tst:∀(x:D)(st2:Sto),Jv st2->Kp L st' st2->(c.kids=[]->(x=.non/\c.mp f u=c/\c.chd f u=AH\/x=(c.mp f u).d/\c.chd f u=AB))->(c.kids≠[]->x=.non)->d8 (Zg P G (n+1)) (.cons (.iff (.any (.comp ["part"] [] 1 (.n 0) (.seq (.v 1)) .non (.ix (.v 0) (.int 1))))
    (.cons (.set 3 (.call "with_inner" (.cons (.ix (.v 0) (.int 0)) (.cons (.comp ["part"] [] 1 (.n 0) (.seq (.v 1)) .non (.ix (.v 0) (.int 0))) .nil))))
   .nil)
    .nil)
  (.cons (.ret (.ite (.isN (.v 3)) (.tup (.cons (.ix (.v 0) (.int 0)) (.cons (.bl AH) .nil))) (.tup (.cons (.v 3) (.cons (.bl AB) .nil)))))
  .nil)) (d9 Q) [AA (j9 (c,u)),AA (.ref la),AA C,AA x] st2:=by
   intro x st2 J2 K2 hx0 hx1;have hla2:st2 la=AA (.lst ds):=K2.at' hla hlaL;have hds:ds.length<=3:=by
    rw[hlen];show(c.kidsU u).length<=3;unfold Pg.kidsU;rw[Fi];cases c<;>simp only[Pg.kids,AS,Av]<;>lia
   ∎;refine⟨_,.inl hla2,⋯,?_⟩
   let sn:D->D:=λd=>match d with|.tup [_,b]=>b|_=>.non
   let fs:D->D:=λd=>match d with|.tup [a,_]=>a|_=>.non
   have e1:ds.map sn=((c.kidsU u).map λc=>c.1.chd f c.2).map D.bl:=by rw[eds,KC,KC];rfl
   have e2:ds.map fs=((c.kidsU u).map λc=>c.1.mp f c.2).map Pg.d:=by rw[eds,KC,KC];rfl
   have two:∀d∈ds,∃a b,d=.tup [a,b]:=λd hd=>by
    rw[eds]at hd;obtain⟨c',_,rfl⟩:=Et.mp hd;exact⟨_,_,rfl⟩
   refine ae3 (f:=sn) (λenv=>env.length=1) (λenv d h=>by simpa using h) (λenv K hK=>hK) (λenv d K hd hE hK=>?_) (.inl hla2) ds [] [AC] (λ_ h=>h) rfl ?_
   ·obtain⟨a,b,rfl⟩:=two d hd
    match env,hE with
    |[y],_=>
     rfl';exact hK
   intro fa hfa;rw[Ed,e1];refine⟨_,.inl b8,?_⟩;rfl'
   by_cases h0:c.kids=[]
   ·have hk:c.kidsU u=[]:=by unfold Pg.kidsU;rw[h0];rfl
    rw[hk,if_neg ∎];rfl';exact fin x _ (hx0 h0) (jn J2 hfa) (K2.new hfa)
   ·have hxn:=hx1 h0;subst hxn
    by_cases hany:((c.kidsU u).map λc=>c.1.chd f c.2).any id=AB
    ·rw[if_pos hany];∎;refine⟨by rw[J.winner];rfl,?_⟩;unfold j9;rfl';have hla3:=j6 (u:=.lst (((c.kidsU u).map λc=>c.1.chd f c.2).map D.bl)) hla2 hfa;refine⟨_,.inl hla3,⋯,?_⟩;refine ae3 (f:=fs) (λenv=>env.length=1) (λenv d h=>by simpa using h) (λenv K hK=>hK) (λenv d K hd hE hK=>?_) (.inl hla3) ds [] [AC] (λ_ h=>h) rfl ?_
     ·obtain⟨a,b,rfl⟩:=two d hd
      match env,hE with
      |[y],_=>
       rfl';exact hK
     intro ga hga;rw[Ed,e2];refine ar5 J (p:=c) (l:=(c.kidsU u).map λc=>c.1.mp f c.2) (.inl b8) (by unfold Pg.kidsU;rw[AX,Fi]) h0 ?_;rw[<-Pg.mp_kids h0];rfl';exact fin _ _ (.inr ⟨rfl,(Pg.chd_kids h0).trans hany⟩) (jn (jn J2 hfa) hga) ((K2.new hfa).new hga)
    ·rw[if_neg hany];rfl';have hc0:c.chd f u=AH:=by rw[Pg.chd_kids h0];simpa using hany
     exact fin .non _ (.inl ⟨rfl,Pg.mp_same c hc0,hc0⟩) (jn J2 hfa) (K2.new hfa)
  ∎;rw[o0 (.inl hla)];rfl';have hkl:ds.length=c.kids.length:=by rw[hlen];show(c.kidsU u).length=_;unfold Pg.kidsU;rw[Fi]
  by_cases h0:c.kids=[]
  ·rw[if_pos (by rw[hkl,h0];rfl)];refine U8 hC ?_;unfold j9;rfl';refine hc (n+1) c u st' _ ⋯ gc.1 gc.2 Js K λst2 J2 K2=>?_;exact tst _ st2 J2 K2 (λ_=>(bn6 h0).elim (λ⟨a,b,d⟩=>.inl ⟨a,b,d⟩) .inr) (λh=>absurd h0 h)
  ·rw[if_neg (by rw[hkl];have:=FP.mpr h0;lia)];exact tst .non st' Js Kp.refl (λh=>absurd h h0) λ_=>rfl
 ·intro dn d _ st' _ v _ _ Js K;subst v;rfl';exact b9 (q st' Js K)
end
def aj0{f:Str}(h:sem P G n f ds st Q):(o9 P G (n+1)).2.1 f ds st Q:=h
section
variable (T0:PM P G) {T:Type} {enc:T->D} {subs:T->List T} {size:T->Nat} {Dk:T->Prop}
include T0
def bq8{L}hsz(hg:∀t,Dk t->∀c∈subs t,Dk c){F}hF(hM:Cok P M)t(hs:size t<=2000)hgt(hL:∀a∈L,∃o,st a=AA o){Y:AI->List T->List D->Sto->Prop}hYL
  (hY0:∀dn st',st dn=AC->Kp [] st st'->Y dn [] [] st') hYk
  (hp:∀c st' Q,Dk c->Kp [] st st'->(∀d st2,W7 st' st2 d ((subs c).map enc)->Kp [] st' st2->Q d st2)->y9 P G n F [enc c] st' Q)
  hm
  (q:∀dn d st',st dn=AC->Y dn [t] [d] st'->Kp L st st'->Q d st'):=
 ay9 T0 (λa h0 _ K b o nb e=>K b o (by grind) (a b o nb e)) Kp.refl (λK a h=>(hL a h).elim λo e=>⟨o,K a o ∎ e⟩) hsz hg hF hM t hs hgt hYL (λdn st' h j _=>hY0 dn st' h j) hYk (λc st' Q gc j K k=>hp c st' Q gc j λd st2 h K2=>k d st2 h (j.trans K2) (K2.more ∎)) hm q
end
def mp_kn{Γ':List Kd}(hf:∀(Δ:List Kd)(n:Nat)(k:Kd),(Δ++Γ)[n]?=AA k->((Pg.name n).mp f Δ.length).kind (Δ++Γ')=AA k){Θ:List Kd}{p:Pg}{k:Kd}(h:Kn Θ p k):∀Δ,Θ=Δ++Γ->Kn (Δ++Γ') (p.mp f Δ.length) k:=by
 induction h with
 |name h=>intro Δ e;subst e;exact N7 (hf Δ _ _ h)
 |star=>intro Δ e;exact .star
 |pair _ _ i j=>exact λΔ e=>.pair (i Δ e) (j Δ e)
 |first _ i=>exact λΔ e=>.first (i Δ e)
 |second _ i=>exact λΔ e=>.second (i Δ e)
 |left _ i=>exact λΔ e=>.left (i Δ e)
 |right _ i=>exact λΔ e=>.right (i Δ e)
 |case _ _ _ i j l=>exact λΔ e=>.case (i Δ e) (j (_::Δ) (congrArg _ e)) (l (_::Δ) (congrArg _ e))
 |way _ i=>exact λΔ e=>.way (i (_::Δ) (congrArg _ e))
 |give _ _ i j=>exact λΔ e=>.give (i Δ e) (j Δ e)
 |lets _ _ i j=>exact λΔ e=>.lets (i Δ e) (j (_::Δ) (congrArg _ e))
 |never _ i=>exact λΔ e=>.never (i Δ e)
def av5{Γ':List Kd}(hf:∀(Δ:List Kd)(n:Nat)(k:Kd),(Δ++Γ)[n]?=AA k->((Pg.name n).mp f Δ.length).kind (Δ++Γ')=AA k)(p:Pg){Δ:List Kd}{k:Kd}(h:p.kind (Δ++Γ)=AA k):(p.mp f Δ.length).kind (Δ++Γ')=AA k:=(mp_kn hf (N7 h) Δ rfl).kind
def bl1{p:Pg}{Γ₁ Γ₂ M:List Kd}{k:Kd}(h:p.kind (Γ₁++Γ₂)=AA k):(p.lf M.length Γ₁.length).kind (Γ₁++(M++Γ₂))=AA k:=by
 refine av5 (f:=lfF M.length Γ₁.length) (Γ:=Γ₁++Γ₂) (Γ':=Γ₁++(M++Γ₂)) (λΔ n k h=>?_) p (Δ:=[]) h;rw[bp4];simp only[Pg.kind];rw[<-Bz]at h ⊢
 split
 ·rename_i hn;rw[Ad (by rw[AU];lia)]at h ⊢;rw[Ad (by rw[AU];lia)];rw[<-h]
  congr 1
  rw[AU];lia
 ·rename_i hn;rw[Aj (by rw[AU];lia)]at h ⊢;exact h
def U6{p:Pg}{Γ:List Kd}{a k:Kd}(h:p.kind (a::Γ)=AA k)(ho:o.kind Γ=AA a):(p.sb o).kind Γ=AA k:=by
 refine av5 (f:=sbF o) (Γ:=a::Γ) (Γ':=Γ) (λΔ n k h=>?_) p (Δ:=[]) h;simp only[Pg.mp,sbF]
 by_cases h1:n<Δ.length
 ·rw[if_pos h1];rw[Aj h1]at h;simp only[EQ,Pg.kind];rw[Aj h1];exact h
 ·rw[if_neg h1];rw[Ad ⋯]at h
  by_cases h2:n=Δ.length
  ·rw[if_pos h2];rw[h2,Hv]at h;cases h;exact bl1 (Γ₁:=[]) (M:=Δ) (Γ₂:=Γ) ho
  ·rw[if_neg h2];simp only[GB,Pg.kind];rw[Ad ⋯];rw[show n-Δ.length=(n-1-Δ.length)+1 by lia,Ee]at h;exact h
abbrev Pg.cls:Nat->Pg->Prop
 |u,.name n=>n<u
 |_,.star=>True
 |u,.pair t v=>t.cls u/\v.cls u
 |u,.first t=>t.cls u
 |u,.second t=>t.cls u
 |u,.left _ t=>t.cls u
 |u,.right _ t=>t.cls u
 |u,.case t v w=>t.cls u/\v.cls (u+1)/\w.cls (u+1)
 |u,.way _ t=>t.cls (u+1)
 |u,.give t v=>t.cls u/\v.cls u
 |u,.lets t v=>t.cls u/\v.cls (u+1)
 |u,.never _ t=>t.cls u
theorem Kn.cls{p:Pg}{k:Kd}(h:Kn Γ p k):p.cls Γ.length:=by
 induction h with
 |name h=>exact(Ac.mp h).1
 |star=>trivial
 |pair _ _ i j|give _ _ i j|lets _ _ i j=>exact⟨i,j⟩
 |case _ _ _ i j l=>exact⟨i,j,l⟩
 |first _ i|second _ i|left _ i|right _ i|way _ i|never _ i=>exact i
def X0(hf:∀n u,n<u->f n u=AC)(p:Pg):∀{w u:Nat},p.cls w->w<=u->p.mp f u=p:=by
 induction p with
 |name n=>intro w u h hw;simp only[Pg.mp,hf n u (Ab h hw)];rfl
 |star=>intros;rfl
 |pair t v i j|give t v i j=>intro w u h hw;simp only[Pg.mp,i h.1 hw,j h.2 hw]
 |lets t v i j=>intro w u h hw;simp only[Pg.mp,i h.1 hw,j h.2 (As hw)]
 |case t v x i j l=>intro w u h hw;simp only[Pg.mp,i h.1 hw,j h.2.1 (As hw),l h.2.2 (As hw)]
 |first t i|second t i|left b t i|right b t i|never b t i=>intro w u h hw;simp only[Pg.mp,i h hw]
 |way b t i=>intro w u h hw;simp only[Pg.mp,i h (As hw)]
def az6{p:Pg}(h:p.cls 0):p.lf m 0=p:=X0 (λn u hn=>by unfold lfF;rw[if_neg ⋯]) p h (AW _)
abbrev msF(σ:List Pg)(n u:Nat):Option Pg:=if n<u then AC else AA ((σ[n-u]?).getD (.name (n-σ.length)))
def a39(h:n<u):msF σ n u=AC:=if_pos h
def b86(hσ:∀s∈σ,s.cls 0)(p:Pg):∀{u:Nat},p.cls (u+σ.length)->(p.mp (msF σ) u).cls u:=by
 have up:∀(q:Pg)(w u:Nat),q.cls w->w<=u->q.cls u:=by
  intro q
  induction q with
  |name n=>exact λw u h hw=>Ab h hw
  |star=>intros;trivial
  |pair t v i j|give t v i j=>exact λw u h hw=>⟨i w u h.1 hw,j w u h.2 hw⟩
  |lets t v i j=>exact λw u h hw=>⟨i w u h.1 hw,j _ _ h.2 (As hw)⟩
  |case t v x i j l=>exact λw u h hw=>⟨i w u h.1 hw,j _ _ h.2.1 (As hw),l _ _ h.2.2 (As hw)⟩
  |first t i|second t i|left b t i|right b t i|never b t i=>exact λw u h hw=>i w u h hw
  |way b t i=>exact λw u h hw=>i _ _ h (As hw)
 induction p with
 |name n=>
  intro u h;simp only[Pg.mp,msF]
  by_cases hn:n<u
  ·rw[if_pos hn];exact hn
  ·rw[if_neg hn];have h:n<u+σ.length:=h;have hl:n-u<σ.length:=by lia
   rw[AM hl];exact up _ 0 u (hσ _ (ED hl)) (Ao _)
 |star=>intros;trivial
 |pair t v i j|give t v i j=>exact λh=>⟨i h.1,j h.2⟩
 |lets t v i j=>intro u h;exact⟨i h.1,j (by rw[EG];exact h.2)⟩
 |case t v x i j l=>intro u h;exact⟨i h.1,j (by rw[EG];exact h.2.1),l (by rw[EG];exact h.2.2)⟩
 |first t i|second t i|left b t i|right b t i|never b t i=>exact λh=>i h
 |way b t i=>intro u h;exact i (u:=u+1) (by rw[EG];exact h)
def ck1{a:Pg}(hσ:∀s∈σ,s.cls 0)(ha:a.cls 0)(p:Pg):(p.mp (msF σ) 1).sb a=p.mp (msF (a::σ)) 0:=
 co4 (f:=msF σ) (g:=sbF a) (h:=msF (a::σ)) (a:=λu=>u+1) (b:=id) (c:=id) (λ_=>rfl) (λ_=>rfl) (λ_=>rfl) (λn u=>by
  simp only[id,Pg.mp,msF];have s0:∀n u,n<u->sbF a n u=AC:=λn u h=>if_pos h
  by_cases h:n<u
  ·rw[if_pos ⋯,if_pos h];simp only[Jh,Pg.mp,s0 n u h]
  ·rw[if_neg h]
   by_cases h2:n=u
   ·subst h2;rw[if_pos ⋯,Hv];simp only[Jh,Pg.mp,sbF,List.getElem?_cons_zero];rw[if_neg h,if_pos trivial];exact az6 ha
   ·rw[if_neg ⋯,show n-u=(n-(u+1))+1 by lia,Ee];simp only[GB];cases e:σ[n-(u+1)]? with
    |some s=>exact X0 s0 s (hσ s (Cg e)) (Ao _)
    |none=>
     have hl:=List.getElem?_eq_none_iff.mp e;simp only[EQ,Pg.mp,sbF,AS];rw[if_neg ⋯,if_neg ⋯];simp only[GB]
     congr 1) p 0
abbrev Pg.gn:Pg->Option Pg
 |.lets t u=>AA (u.sb t)
 |.give t u=>match t with|.way _ b=>AA (b.sb u)|_=>AC
 |.first t=>match t with|.pair a _=>AA a|_=>AC
 |.second t=>match t with|.pair _ b=>AA b|_=>AC
 |.case t u v=>match t with|.left _ a=>AA (u.sb a)|.right _ a=>AA (v.sb a)|_=>AC
 |_=>AC
abbrev Pg.isF:Pg->Bool
 |.give _ _=>AB|.first _=>AB|.second _=>AB|.case _ _ _=>AB|.never _ _=>AB|_=>AH
abbrev Pg.isV:Pg->Bool
 |.star=>AB|.pair _ _=>AB|.left _ _=>AB|.right _ _=>AB|.way _ _=>AB|_=>AH
abbrev Pg.f1:Pg->Pg
 |.give t _=>t|.first t=>t|.second t=>t|.case t _ _=>t|.never _ t=>t|p=>p
abbrev Pg.wf:Pg->Pg->Pg
 |.give _ u,x=>.give x u|.first _,x=>.first x|.second _,x=>.second x|.case _ u v,x=>.case x u v|.never k _,x=>.never k x|p,_=>p
abbrev Pg.nx:Pg->Option Pg
 |.lets t u=>AA (u.sb t)
 |.give t u=>match(Pg.give t u).gn with|some q=>AA q|none=>t.nx.map λx=>.give x u
 |.first t=>match(Pg.first t).gn with|some q=>AA q|none=>t.nx.map .first
 |.second t=>match(Pg.second t).gn with|some q=>AA q|none=>t.nx.map .second
 |.case t u v=>match(Pg.case t u v).gn with|some q=>AA q|none=>t.nx.map λx=>.case x u v
 |.never k t=>t.nx.map λx=>.never k x
 |_=>AC
def E2{p:Pg}(h:p.isF=AB):p.nx=match p.gn with|some q=>AA q|none=>p.f1.nx.map p.wf:=by cases p<;>first|rfl|cases h
def Z0{p:Pg}(h:p.isV=AB):p.nx=AC:=by cases p<;>first|rfl|cases h
def cv0{p:Pg}(h:p.isF=AB)(hx:x.isV=AH):(p.wf x).gn=AC:=by
 cases p<;>first|(cases h;done)|skip
 all_goals (cases x<;>first|rfl|(cases hx;done))
def A4{p:Pg}(h:p.isF=AB):(p.wf x).isF=AB/\(p.wf x).f1=x/\(p.wf x).wf=p.wf:=by
 cases p<;>first|(cases h;done)|exact⟨rfl,rfl,rfl⟩
def Y0{p x y:Pg}(h:p.isF=AB)(hx:x.nx=AA y):(p.wf x).nx=AA (p.wf y):=by
 have hv:x.isV=AH:=by
  cases e:x.isV with
  |false=>rfl
  |true=>rw[Z0 e]at hx;cases hx
 obtain⟨a,b,c⟩:=A4 (x:=x) h;rw[E2 a,cv0 h hv,b,c,hx];rfl
def ah5{p:Pg}{k:Kd}(h:Kn [] p k)(e:p.gn=AA q):Kn [] q k:=by
 cases h with
 |name h|star|pair _ _|left _|right _|way _|never _=>cases e
 |lets x y=>cases e;exact N7 (U6 y.kind x.kind)
 |first x=>cases x<;>cases e;assumption
 |second x=>cases x<;>cases e;assumption
 |give x y=>cases x<;>cases e;rename_i z;exact N7 (U6 z.kind y.kind)
 |case x y z=>
  cases x<;>cases e
  ·rename_i w;exact N7 (U6 y.kind w.kind)
  ·rename_i w;exact N7 (U6 z.kind w.kind)
def N6:∀{p q:Pg}{k:Kd},Kn [] p k->p.nx=AA q->Kn [] q k:=by
 intro p;have st:∀{p q t:Pg}{k:Kd},p.isF=AB->Kn [] p k->(∀x,t.nx=AA x->Kn [] (p.wf x) k)->p.f1=t->p.nx=AA q->Kn [] q k:=λ{p q t k}hF h ih e1 e=>by
  rw[E2 hF]at e;cases g:p.gn with
  |some q'=>rw[g]at e;cases e;exact ah5 h g
  |none=>
   rw[g,e1]at e;obtain⟨x,e2,rfl⟩:=DI.mp e;exact ih x e2
 induction p with
 |name n=>intro q k h e;cases e
 |star=>intro q k h e;cases e
 |pair t v i j|left b t i|right b t i|way b t i=>intro q k h e;cases e
 |lets t v i j=>intro q k h e;exact ah5 h e
 |first t i=>intro q k h;exact st rfl h (λx ex=>by cases h with|first z=>exact .first (i z ex)) rfl
 |second t i=>intro q k h;exact st rfl h (λx ex=>by cases h with|second z=>exact .second (i z ex)) rfl
 |give t v i j=>intro q k h;exact st rfl h (λx ex=>by cases h with|give z w=>exact .give (i z ex) w) rfl
 |case t v w i j l=>intro q k h;exact st rfl h (λx ex=>by cases h with|case z w y=>exact .case (i z ex) w y) rfl
 |never b t i=>intro q k h;exact st rfl h (λx ex=>by cases h with|never z=>exact .never (i z ex)) rfl
def ay6{p:Pg}{k:Kd}(hF:p.isF=AB)(h:Kn [] p k)(hv:p.f1.isV=AB):∃q,p.gn=AA q:=by
 cases h with
 |name h|star|pair _ _|left _|right _|way _|lets _ _=>cases hF
 |first x=>cases x<;>first|(cases hv;done)|exact⟨_,rfl⟩
 |second x=>cases x<;>first|(cases hv;done)|exact⟨_,rfl⟩
 |give x y=>cases x<;>first|(cases hv;done)|exact⟨_,rfl⟩
 |case x y z=>cases x<;>first|(cases hv;done)|exact⟨_,rfl⟩
 |never x=>cases x<;>cases hv
def aj3{p:Pg}{k:Kd}(hF:p.isF=AB)(h:Kn [] p k):∃l,Kn [] p.f1 l:=by
 cases h with
 |name h|star|pair _ _|left _|right _|way _|lets _ _=>cases hF
 |first x|second x|give x _|case x _ _|never x=>exact⟨_,x⟩
def ay5:∀{p:Pg}{k:Kd},Kn [] p k->p.nx=AC->p.isV=AB:=by
 intro p;have st:∀{p:Pg}{k:Kd},p.isF=AB->Kn [] p k->(∀l,Kn [] p.f1 l->p.f1.nx=AC->p.f1.isV=AB)->p.nx=AC->p.isV=AB:=λ{p k}hF h ih e=>by
  rw[E2 hF]at e;obtain⟨l,hl⟩:=aj3 hF h;cases g:p.gn with
  |some q=>rw[g]at e;cases e
  |none=>
   rw[g]at e;obtain⟨q,e2⟩:=ay6 hF h (ih l hl (by simpa using e));rw[g]at e2;cases e2
 induction p with
 |name n=>intro k h;cases h with|name h=>cases h
 |star|pair _ _ _ _|left _ _ _|right _ _ _|way _ _ _=>intros;rfl
 |lets t v i j=>intro k h e;cases e
 |first t i|second t i|never b t i=>intro k h;exact st rfl h λl=>i
 |give t v i j=>intro k h;exact st rfl h λl=>i
 |case t v w i j l=>intro k h;exact st rfl h λl=>i
abbrev nxs:Nat->Pg->Option Pg
 |0,p=>AA p
 |n+1,p=>p.nx.bind (nxs n)
theorem ah1:∀{n:Nat}{p q:Pg}{k:Kd},Kn [] p k->nxs n p=AA q->Kn [] q k
 |0,p,q,k,h,e=>by cases e;exact h
 |n+1,p,q,k,h,e=>by
  obtain⟨r,e1,e2⟩:=Bc.mp e;exact ah1 (N6 h e1) e2
def b50{p:Pg}(hF:p.isF=AB){k:Kd}:∀{n:Nat}{x v:Pg},Kn [] (p.wf x) k->nxs n (p.wf x)=AA v->v.nx=AC->∃m y q,nxs m x=AA y/\y.nx=AC/\(p.wf y).gn=AA q/\∃j,n=m+1+j/\nxs j q=AA v:=by
 intro n
 induction n with
 |zero=>
  intro x v h e ev;cases e;have:=ay5 h ev;obtain⟨a,_,_⟩:=A4 (x:=x) hF;cases hp:p.wf x<;>rw[hp]at a this<;>first|(cases a;done)|cases this
 |succ n ih=>
  intro x v h e ev;obtain⟨a,b,c⟩:=A4 (x:=x) hF;obtain⟨r,e1,e2⟩:=Bc.mp e;cases hx:x.nx with
  |some y=>
   rw[Y0 hF hx]at e1;cases e1;obtain⟨m,y2,q,h1,h2,h3,j,rfl,h4⟩:=ih (N6 h (Y0 hF hx)) e2 ev;exact⟨m+1,y2,q,by show x.nx.bind _=_;rw[hx];exact h1,h2,h3,j,⋯,h4⟩
  |none=>
   rw[E2 a,b,hx]at e1;cases g:(p.wf x).gn with
   |none=>rw[g]at e1;cases e1
   |some q=>
    rw[g]at e1;cases e1;exact⟨0,x,r,rfl,hx,g,n,⋯,e2⟩
theorem au5{p:Pg}(hF:p.isF=AB):∀{n:Nat}{x y:Pg},nxs n x=AA y->nxs n (p.wf x)=AA (p.wf y)
 |0,x,y,e=>by cases e;rfl
 |n+1,x,y,e=>by
  obtain⟨r,e1,e2⟩:=Bc.mp e;show(p.wf x).nx.bind _=_;rw[Y0 hF e1];exact au5 hF e2
set_option genSizeOf true in
inductive Cl where
 |mk (p:Pg) (es:List Cl)
variable{c e c' c1:Cl}{Fs:List Cl}
abbrev Cl.p:Cl->Pg|.mk p _=>p
abbrev Cl.es:Cl->List Cl|.mk _ es=>es
mutual
noncomputable def Cl.den:Cl->Pg
 |.mk p es=>p.mp (msF (Cl.dens es)) 0
noncomputable def Cl.dens:List Cl->List Pg
 |[]=>[]
 |c::r=>c.den::Cl.dens r
end
theorem O9:∀es:List Cl,Cl.dens es=es.map Cl.den
 |[]=>rfl
 |c::r=>congrArg _ (O9 r)
inductive Sc:Cl->Prop
 |mk {p:Pg} {es:List Cl}:p.cls es.length->(∀c∈es,Sc c)->Sc (.mk p es)
def Sc.in{p:Pg}{es:List Cl}(h:Sc (.mk p es)):p.cls es.length/\∀c∈es,Sc c:=by cases h;exact⟨‹_›,‹_›⟩
theorem Sc.den(h:Sc c):c.den.cls 0:=by
 induction h with
 |@mk p es h1 _ ih=>
  unfold Cl.den;rw[O9];refine b86 (λs hs=>?_) p (by rw[Ch,AX];exact h1);obtain⟨c,hc,rfl⟩:=Et.mp hs;exact ih c hc
theorem Sc.dens{es:List Cl}(h:∀c∈es,Sc c):∀s∈Cl.dens es,s.cls 0:=λs hs=>by
 rw[O9]at hs;obtain⟨c,hc,rfl⟩:=Et.mp hs;exact(h c hc).den
def as8{es:List Cl}(h:es[n]?=AA c):(Cl.mk (.name n) es).den=c.den:=by
 show(msF (Cl.dens es) n 0).getD (.name n)=_;unfold msF;rw[if_neg (Fn _),O9,JN,Aw,h];rfl
def Q3{b:Pg}{a:Cl}{es:List Cl}(ha:Sc a)(h:∀c∈es,Sc c):(b.mp (msF (Cl.dens es)) 1).sb a.den=(Cl.mk b (a::es)).den:=ck1 (Sc.dens h) ha.den b
def Y6{p:Pg}{es:List Cl}(h:p.isF=AB):(Cl.mk p es).den.isF=AB/\(Cl.mk p es).den.f1=(Cl.mk p.f1 es).den/\∀x,((Cl.mk p es).den.wf x)=(p.mp (msF (Cl.dens es)) 0).wf x:=by
 cases p<;>first|(cases h;done)|exact⟨rfl,rfl,λ_=>rfl⟩
def ci8{p:Pg}:p.wf p.f1=p:=by cases p<;>rfl
def az5{p:Pg}{es:List Cl}(h:p.isF=AB):(Cl.mk p es).den.wf (Cl.mk p.f1 es).den=(Cl.mk p es).den:=by rw[<-(Y6 h).2.1];exact ci8
def bn8{p:Pg}{es:List Cl}(h:p.isF=AB):(Cl.mk (p.wf .star) es).den.wf x=(Cl.mk p es).den.wf x:=by cases p<;>first|(cases h;done)|rfl
def aj1{p:Pg}{es:List Cl}(h:p.isV=AB):(Cl.mk p es).den.isV=AB:=by cases p<;>first|(cases h;done)|rfl
abbrev Cl.bh:Cl->Cl->Option Cl
 |.mk (.give _ u) es,.mk (.way _ b) fs=>AA (.mk b (.mk u es::fs))
 |.mk (.first _) _,.mk (.pair a _) fs=>AA (.mk a fs)
 |.mk (.second _) _,.mk (.pair _ b) fs=>AA (.mk b fs)
 |.mk (.case _ u _) es,.mk (.left _ a) fs=>AA (.mk u (.mk a fs::es))
 |.mk (.case _ _ v) es,.mk (.right _ a) fs=>AA (.mk v (.mk a fs::es))
 |_,_=>AC
def a45{p:Pg}(h:p.isF=AB)(c:p.cls u):p.f1.cls u:=by
 cases p<;>first|(cases h;done)|exact c|exact c.1
def V4{b:Pg}{a:Cl}{es:List Cl}(h:b.cls (es.length+1))(ha:Sc a)(hs:∀c∈es,Sc c):Sc (.mk b (a::es)):=.mk h λc hc=>by
 rcases Ae.mp hc with rfl|hc
 ·exact ha
 ·exact hs c hc
def a65{f:Cl}(hf:Sc f)(he:Sc e)(hF:f.p.isF=AB)(h:(f.den.wf e.den).gn=AA q)(hv:e.p.isV=AB):∃c,f.bh e=AA c/\Sc c/\c.den=q:=by
 obtain⟨p,es⟩:=f;obtain⟨v,fs⟩:=e;obtain⟨f1,f2⟩:=hf.in;obtain⟨e1,e2⟩:=he.in;cases p<;>first|(cases hF;done)|skip
 all_goals (cases v<;>first|(cases hv;done)|(cases h;done)|skip)
 ·have:=Ag h;exact⟨_,rfl,.mk e1.1 e2,this⟩
 ·have:=Ag h;exact⟨_,rfl,.mk e1.2 e2,this⟩
 ·rename_i a;have sa:Sc (.mk a fs):=.mk e1 e2;have z:=Ag h;exact⟨_,rfl,V4 f1.2.1 sa f2,(Q3 sa f2).symm.trans z⟩
 ·rename_i a;have sa:Sc (.mk a fs):=.mk e1 e2;have z:=Ag h;exact⟨_,rfl,V4 f1.2.2 sa f2,(Q3 sa f2).symm.trans z⟩
 ·have z:=Ag h;exact⟨_,rfl,V4 e1 (.mk f1.2 f2) e2,(Q3 (.mk f1.2 f2) e2).symm.trans z⟩
inductive Evl:Cl->Cl->Nat->Prop
 |val {p es}:p.isV=AB->Evl (.mk p es) (.mk p es) 0
 |name {n es c e k}:es[n]?=AA c->Evl c e k->Evl (.mk (.name n) es) e k
 |lets {t u es e k}:Evl (.mk u (.mk t es::es)) e k->Evl (.mk (.lets t u) es) e (k+1)
 |form {p es e c e' k j}:p.isF=AB->Evl (.mk p.f1 es) e k->(Cl.mk p es).bh e=AA c->Evl c e' j->Evl (.mk p es) e' (k+1+j)
def Evl.val_p{k:Nat}(h:Evl c e k):e.p.isV=AB:=by induction h<;>assumption
def a73{p:Pg}(h:p.isF=AB):LJ p.f1<LJ p:=by cases p<;>first|(cases h;done)|(simp only[Pg.f1,Pg.give.sizeOf_spec,Pg.first.sizeOf_spec,Pg.second.sizeOf_spec,Pg.case.sizeOf_spec,Pg.never.sizeOf_spec];lia)
def Pg.sort(p:Pg):(∃n,p=.name n)\/(∃t u,p=.lets t u)\/p.isF=AB\/p.isV=AB:=by
 cases p<;>first|exact .inl ⟨_,rfl⟩|exact .inr (.inl ⟨_,_,rfl⟩)|exact .inr (.inr (.inl rfl))|exact .inr (.inr (.inr rfl))
def ci7(n:Nat):∀(m:Nat)(c:Cl)(v:Pg)(k:Kd),LJ c<=m->Sc c->Kn [] c.den k->nxs n c.den=AA v->v.nx=AC->∃e,Evl c e n/\Sc e/\e.den=v:=by
 induction n using FB with
 |_ n ihn=>
 intro m
 induction m with
 |zero=>intro c v k hm;obtain⟨p,es⟩:=c;simp only[Cl.mk.sizeOf_spec]at hm;lia
 |succ m ihm=>
 intro c v k hm hs hk hx hv;obtain⟨p,es⟩:=c;simp only[Cl.mk.sizeOf_spec]at hm;obtain⟨s1,s2⟩:=hs.in
 rcases p.sort with⟨i,rfl⟩|⟨t,u,rfl⟩|hF|hV
 ·have hi:i<es.length:=s1;have e:=AM hi;have hmem:=ED hi;have:=Hw hmem;rw[as8 e]at hk hx;obtain⟨e',a,b,c⟩:=ihm es[i] v k ⋯ (s2 _ hmem) hk hx hv;exact⟨e',.name e a,b,c⟩
 ·cases n with
  |zero=>cases hx;cases hv
  |succ n=>
   obtain⟨r,e1,e2⟩:=Bc.mp hx;have z:(u.mp (msF (Cl.dens es)) 1).sb (Cl.mk t es).den=(Cl.mk u (.mk t es::es)).den:=Q3 (.mk s1.1 s2) s2;have e3:(Cl.mk u (.mk t es::es)).den=r:=z.symm.trans (Ag e1);have hk':=N6 hk e1;rw[<-e3]at e2 hk';obtain⟨e',a,b,c⟩:=ihn n (Cy _) _ (.mk u (.mk t es::es)) v k (AW _) (V4 s1.2 (.mk s1.1 s2) s2) hk' e2 hv;exact⟨e',.lets a,b,c⟩
 ·have w:=az5 (es:=es) hF;have dF:=(Y6 (es:=es) hF).1;rw[<-w]at hk hx;obtain⟨m',y,q,h1,h2,h3,j,rfl,h4⟩:=b50 dF hk hx hv;have:=a73 hF;have hk1:∃l,Kn [] (Cl.mk p.f1 es).den l:=by
   have z:=aj3 (A4 dF).1 hk;rw[(A4 dF).2.1]at z;exact z
  obtain⟨l,hk1⟩:=hk1;have sc1:Sc (.mk p.f1 es):=.mk (a45 hF s1) s2;obtain⟨e,a,b,c⟩:=ihn m' ⋯ _ (.mk p.f1 es) y l (AW _) sc1 hk1 h1 h2;rw[<-c]at h3;obtain⟨c',c1,c2,c3⟩:=a65 hs b hF h3 a.val_p;have hkq:Kn [] q k:=by
   have hk2:Kn [] ((Cl.mk p es).den.wf y) k:=ah1 hk (au5 dF h1);rw[<-c]at hk2;exact ah5 hk2 h3
  rw[<-c3]at hkq h4;obtain⟨e',a',b',c''⟩:=ihn j ⋯ _ c' v k (AW _) c2 hkq h4 hv;exact⟨e',.form hF a c1 a',b',c''⟩
 ·have hz:=Z0 (aj1 (es:=es) hV);cases n with
  |succ n=>obtain⟨r,e1,e2⟩:=Bc.mp hx;rw[hz]at e1;cases e1
  |zero=>cases hx;exact⟨_,.val hV,hs,rfl⟩
abbrev k4:List Cl->Pg->Pg
 |[],x=>x
 |f::fs,x=>f.den.wf (k4 fs x)
theorem U1:∀{fs:List Cl}{f:Cl}{x:Pg},k4 (fs++[f]) x=k4 fs (f.den.wf x)
 |[],_,_=>rfl
 |g::fs,f,x=>congrArg _ U1
theorem af9:∀{fs:List Cl}{x y:Pg},(∀f∈fs,f.den.isF=AB)->x.nx=AA y->(k4 fs x).nx=AA (k4 fs y)
 |[],x,y,_,h=>h
 |f::fs,x,y,hf,h=>Y0 (hf f ∎) (af9 (λg hg=>hf g (by simp[hg])) h)
theorem ax9:∀{fs:List Cl}{x:Pg}{k:Kd},(∀f∈fs,f.den.isF=AB)->Kn [] (k4 fs x) k->∃l,Kn [] x l
 |[],x,k,_,h=>⟨k,h⟩
 |f::fs,x,k,hf,h=>by
  have a:=A4 (x:=k4 fs x) (hf f ∎);obtain⟨l,hl⟩:=aj3 a.1 h;rw[a.2.1]at hl;exact ax9 (λg hg=>hf g (by simp[hg])) hl
abbrev Pg.dq:Nat->Nat->Pg->Prop
 |i,d,.name n=>n=i->1<=d
 |_,_,.star=>True
 |i,d,.pair t v=>t.dq i (d-1)/\v.dq i (d-1)
 |i,d,.first t=>t.dq i (d-1)
 |i,d,.second t=>t.dq i (d-1)
 |i,d,.left _ t=>t.dq i (d-1)
 |i,d,.right _ t=>t.dq i (d-1)
 |i,d,.case t v w=>t.dq i (d-1)/\v.dq (i+1) (d-1)/\w.dq (i+1) (d-1)
 |i,d,.way _ t=>t.dq (i+1) (d-1)
 |i,d,.give t v=>t.dq i (d-1)/\v.dq i (d-1)
 |i,d,.lets t v=>t.dq i (d-1)/\v.dq (i+1) (d-1)
 |i,d,.never _ t=>t.dq i (d-1)
abbrev Pg.bd(d:Nat):Pg->Prop
 |.name _=>True
 |.star=>True
 |.pair t v=>t.bd d/\v.bd d
 |.first t=>t.bd d
 |.second t=>t.bd d
 |.left _ t=>t.bd d
 |.right _ t=>t.bd d
 |.case t v w=>t.bd d/\(v.bd d/\v.dq 0 d)/\(w.bd d/\w.dq 0 d)
 |.way _ t=>t.bd d/\t.dq 0 d
 |.give t v=>t.bd d/\v.bd d
 |.lets t v=>t.bd d/\(v.bd d/\v.dq 0 d)
 |.never _ t=>t.bd d
def P7(p:Pg):∀{i d d':Nat},p.dq i d->d<=d'->p.dq i d':=by
 induction p with
 |name n=>exact λh hd e=>Ay (h e) hd
 |star=>intros;trivial
 |pair t v i j|give t v i j|lets t v i j=>exact λh hd=>⟨i h.1 (DE hd 1),j h.2 (DE hd 1)⟩
 |case t v x i j l=>exact λh hd=>⟨i h.1 (DE hd 1),j h.2.1 (DE hd 1),l h.2.2 (DE hd 1)⟩
 |first t i|second t i|left b t i|right b t i|never b t i|way b t i=>exact λh hd=>i h (DE hd 1)
def X5(p:Pg):∀{w i d:Nat},p.cls w->w<=i->p.dq i d:=by
 induction p with
 |name n=>intro w i d h hw e;have h:n<w:=h;lia
 |star=>intros;trivial
 |pair t v i j|give t v i j=>exact λh hw=>⟨i h.1 hw,j h.2 hw⟩
 |lets t v i j=>exact λh hw=>⟨i h.1 hw,j h.2 (As hw)⟩
 |case t v x i j l=>exact λh hw=>⟨i h.1 hw,j h.2.1 (As hw),l h.2.2 (As hw)⟩
 |first t i|second t i|left b t i|right b t i|never b t i=>exact λh hw=>i h hw
 |way b t i=>exact λh hw=>i h (As hw)
section
variable {a:Pg} (ha:a.cls 0)
include ha
def ag0(n u:Nat):(n<u/\(Pg.name n).mp (sbF a) u=.name n)\/(n=u/\(Pg.name n).mp (sbF a) u=a)\/(u<n/\(Pg.name n).mp (sbF a) u=.name (n-1)):=by
 simp only[Pg.mp,sbF]
 by_cases h:n<u
 ·rw[if_pos h];exact .inl ⟨h,rfl⟩
 ·rw[if_neg h]
  by_cases h2:n=u
  ·rw[if_pos h2];exact .inr (.inl ⟨h2,az6 ha⟩)
  ·rw[if_neg h2];exact .inr (.inr ⟨⋯,rfl⟩)
def Y8(p:Pg):∀{i u d:Nat},i<u->p.dq i d->(p.mp (sbF a) u).dq i d:=by
 induction p with
 |name n=>
  intro i u d hi h
  rcases ag0 ha n u with⟨_,e⟩|⟨_,e⟩|⟨_,e⟩<;>rw[e]
  ·exact h
  ·exact X5 a ha (Ao _)
  ·intro z;lia
 |star=>intros;trivial
 |pair t v i j|give t v i j=>exact λhi h=>⟨i hi h.1,j hi h.2⟩
 |lets t v i j=>exact λhi h=>⟨i hi h.1,j (Gq hi) h.2⟩
 |case t v x i j l=>exact λhi h=>⟨i hi h.1,j (Gq hi) h.2.1,l (Gq hi) h.2.2⟩
 |first t i|second t i|left b t i|right b t i|never b t i=>exact λhi h=>i hi h
 |way b t i=>exact λhi h=>i (Gq hi) h
def cr3{d:Nat}(hb:a.bd d)(p:Pg):∀{u:Nat},p.bd d->(p.mp (sbF a) u).bd d:=by
 induction p with
 |name n=>
  intro u h
  rcases ag0 ha n u with⟨_,e⟩|⟨_,e⟩|⟨_,e⟩<;>rw[e]
  ·trivial
  ·exact hb
  ·trivial
 |star=>intros;trivial
 |pair t v i j|give t v i j=>exact λh=>⟨i h.1,j h.2⟩
 |lets t v i j=>exact λh=>⟨i h.1,j h.2.1,Y8 ha v (Fp _) h.2.2⟩
 |case t v x i j l=>exact λh=>⟨i h.1,⟨j h.2.1.1,Y8 ha v (Fp _) h.2.1.2⟩,l h.2.2.1,Y8 ha x (Fp _) h.2.2.2⟩
 |first t i|second t i|left b t i|right b t i|never b t i=>exact λh=>i h
 |way b t i=>exact λh=>⟨i h.1,Y8 ha t (Fp _) h.2⟩
omit ha in
theorem ah9(q:Pg):1<=q.hgt:=by cases q<;>simp only[Pg.hgt]<;>lia
abbrev hiB(d h:Nat):Nat:=if d=0 then 0 else d-1+h
def ck2(p:Pg):∀{u d:Nat},p.dq u d->(p.mp (sbF a) u).hgt<=max p.hgt (hiB d a.hgt):=by
 have st:∀d h,1+hiB (d-1) h<=hiB d h\/hiB (d-1) h=0:=λd h=>by unfold hiB;split<;>split<;>lia
 induction p with
 |name n=>
  intro u d h
  rcases ag0 ha n u with⟨_,e⟩|⟨z,e⟩|⟨_,e⟩<;>rw[e]
  ·exact Fu _ _
  ·have:=h z;refine Ay ?_ (GW _ _);unfold hiB;rw[if_neg ⋯];lia
  ·exact Fu _ _
 |star=>exact λ_=>Fu _ _
 |pair t v i j|give t v i j|lets t v i j=>intro u d h;have:=i h.1;have:=j h.2;have:=st d a.hgt;simp only[Pg.mp,Pg.hgt];lia
 |case t v x i j l=>intro u d h;have:=i h.1;have:=j h.2.1;have:=l h.2.2;have:=st d a.hgt;simp only[Pg.mp,Pg.hgt];lia
 |first t i|second t i|left b t i|right b t i|never b t i|way b t i=>intro u d h;have:=i h;have:=st d a.hgt;simp only[Pg.mp,Pg.hgt];lia
end
structure Hb(d m:Nat)(p:Pg):Prop where
 cl:p.cls 0
 bd:p.bd d
 kn:p.kn m
def cr0{d:Nat}(hd:2<=d){b a:Pg}(ha:Hb d m a)(h1:b.bd d/\b.dq 0 d)(h2:b.kn m):(b.sb a).bd d/\(b.sb a).kn m/\(b.sb a).hgt<=max b.hgt (d-1+a.hgt):=by
 have:=ck2 ha.cl b h1.2;unfold hiB at this;rw[if_neg ⋯]at this;exact⟨cr3 ha.cl ha.bd b h1.1,cr8 ha.kn h2,this⟩
def a82{d:Nat}(hd:2<=d){p:Pg}(h:Hb d m p)(e:p.gn=AA q):q.bd d/\q.kn m/\q.hgt+2<=p.hgt+d:=by
 obtain⟨c,b,k⟩:=h;have put:∀{x y:Pg},Hb d m y->x.bd d/\x.dq 0 d->x.kn m->1+max x.hgt y.hgt<=p.hgt->(x.sb y).bd d/\(x.sb y).kn m/\(x.sb y).hgt+2<=p.hgt+d:=λ{x y}hy h1 h2 h3=>by
  obtain⟨z1,z2,z3⟩:=cr0 hd hy h1 h2;exact⟨z1,z2,⋯⟩
 cases p with
 |name n|star|pair _ _|left _ _|right _ _|way _ _|never _ _=>cases e
 |lets t u=>cases e;exact put ⟨c.1,b.1,k.1⟩ b.2 k.2 (by simp only[Pg.hgt];lia)
 |first t=>cases t<;>cases e;exact⟨b.1,k.1,by simp only[Pg.hgt];lia⟩
 |second t=>cases t<;>cases e;exact⟨b.2,k.2,by simp only[Pg.hgt];lia⟩
 |give t u=>cases t<;>cases e;exact put ⟨c.2,b.2,k.2⟩ b.1 k.1.2 (by simp only[Pg.hgt];lia)
 |case t u v=>
  cases t<;>cases e
  ·exact put ⟨c.1,b.1,k.1.2⟩ b.2.1 k.2.1 (by simp only[Pg.hgt];lia)
  ·exact put ⟨c.1,b.1,k.1.2⟩ b.2.2 k.2.2 (by simp only[Pg.hgt];lia)
def cq8{d:Nat}(hd:2<=d):∀{p q:Pg},Hb d m p->p.nx=AA q->q.bd d/\q.kn m/\q.hgt+2<=p.hgt+d:=by
 intro p;have st:∀{p q:Pg},p.isF=AB->Hb d m p->(∀x,p.f1.nx=AA x->(p.wf x).bd d/\(p.wf x).kn m/\(p.wf x).hgt+2<=p.hgt+d)->p.nx=AA q->q.bd d/\q.kn m/\q.hgt+2<=p.hgt+d:=λ{p q}hF h ih e=>by
  rw[E2 hF]at e;cases g:p.gn with
  |some q'=>rw[g]at e;cases e;exact a82 hd h g
  |none=>
   rw[g]at e;obtain⟨x,e2,rfl⟩:=DI.mp e;exact ih x e2
 induction p with
 |name n|star|pair t v i j|left b t i|right b t i|way b t i=>intro q h e;cases e
 |lets t v i j=>intro q h e;exact a82 hd h e
 |first t i=>intro q h;exact st rfl h λx e=>by have:=i ⟨h.cl,h.bd,h.kn⟩ e;exact⟨this.1,this.2.1,by simp only[Pg.wf,Pg.hgt];lia⟩
 |second t i=>intro q h;exact st rfl h λx e=>by have:=i ⟨h.cl,h.bd,h.kn⟩ e;exact⟨this.1,this.2.1,by simp only[Pg.wf,Pg.hgt];lia⟩
 |never b t i=>intro q h;exact st rfl h λx e=>by have:=i ⟨h.cl,h.bd,h.kn.2⟩ e;exact⟨this.1,⟨h.kn.1,this.2.1⟩,by simp only[Pg.wf,Pg.hgt];lia⟩
 |give t v i j=>intro q h;exact st rfl h λx e=>by have:=i ⟨h.cl.1,h.bd.1,h.kn.1⟩ e;exact⟨⟨this.1,h.bd.2⟩,⟨this.2.1,h.kn.2⟩,by simp only[Pg.wf,Pg.hgt];lia⟩
 |case t v w i j l=>intro q h;exact st rfl h λx e=>by have:=i ⟨h.cl.1,h.bd.1,h.kn.1⟩ e;exact⟨⟨this.1,h.bd.2⟩,⟨this.2.1,h.kn.2⟩,by simp only[Pg.wf,Pg.hgt];lia⟩
theorem a57{d:Nat}(hd:2<=d):∀{n:Nat}{p q:Pg}{k:Kd},Kn [] p k->p.bd d->p.kn m->nxs n p=AA q->Hb d m q/\q.hgt<=p.hgt+n*(d-2)
 |0,p,q,k,h,b,c,e=>by cases e;exact⟨⟨h.cls,b,c⟩,⋯⟩
 |n+1,p,q,k,h,b,c,e=>by
  obtain⟨r,e1,e2⟩:=Bc.mp e;obtain⟨b',c',z⟩:=cq8 hd ⟨h.cls,b,c⟩ e1;obtain⟨x,y⟩:=a57 hd (N6 h e1) b' c' e2;exact⟨x,by rw[Hm];lia⟩
@[reducible]noncomputable def Bm:=AI->Option Cl
variable{R R1:Bm}
@[reducible]noncomputable def bdF(p:Pg)(as:List AI)(tg:D)(cp:AI)(en:D)(n:Nat):List (Str×D):=[("program",p.d),("around",.tup (as.map D.ref)),("together",tg),("copies",.ref cp),("has_names",.bl AH),("end",en),("steps",.int n)]
@[reducible]noncomputable def bdO(p:Pg)(as:List AI)(tg:D)(cp:AI)(en:D)(n:Nat):Ob:=.ins "Bound" (bdF p as tg cp en n)
abbrev O2(R:Bm)(c:Cl)(en:D)(n:Nat):Prop:=en=.non\/∃e ce,en=.ref e/\R e=AA ce/\Evl c ce n
structure BAt(R:Bm)(st:Sto)(b:AI)(c:Cl)(as:List AI)(tg:D)(cp:AI)(en:D)(n:Nat):Prop where
 at_:st b=AA (bdO c.p as tg cp en n)
 as_:as.map R=c.es.map AA
 tg_:tg=.non\/tg=c.den.d
 en_:O2 R c en n
abbrev BOk(R:Bm)(st:Sto):Prop:=∀b c,R b=AA c->∃as tg cp en n,BAt R st b c as tg cp en n
abbrev Fl(st:Sto)(b:AI)(c:Cl):Prop:=∃as cp en n,st b=AA (bdO c.p as c.den.d cp en n)
structure Go(L:List AI)(R:Bm)(st:Sto)(R':Bm)(st':Sto):Prop where
 sub:∀b c,R b=AA c->R' b=AA c
 new:∀b,R' b≠AC->R b=AC->st b=AC
 kp:∀b o,R b=AC->b∉L->st b=AA o->st' b=AA o
 al:∀b,st b≠AC->st' b≠AC
 fl:∀b c,R b=AA c->Fl st b c->Fl st' b c
 ar:∀b c as tg cp en n,R b=AA c->st b=AA (bdO c.p as tg cp en n)->∃tg' en' n',st' b=AA (bdO c.p as tg' cp en' n')
 ok:BOk R' st'
section
variable {R2:Bm} {st2:Sto} 
def Go.refl(h:BOk R st):Go L R st R st:=⟨λ_ _ h=>h,λ_ h1 h2=>absurd h2 h1,λ_ _ _ _ h=>h,λ_ h=>h,λ_ _ _ h=>h,λ_ _ _ _ _ _ _ _ h=>⟨_,_,_,h⟩,h⟩
def Go.trans(x:Go L R st R1 st1)(y:Go L R1 st1 R2 st2):Go L R st R2 st2:=by
 have nn:∀b o,R b=AC->st b=AA o->R1 b=AC:=λb o h e=>BJ λz=>by rw[x.new b z h]at e;cases e
 refine⟨λb c h=>y.sub b c (x.sub b c h),λb h1 h2=>?_,λb o h1 h2 e=>y.kp b o (nn b o h1 e) h2 (x.kp b o h1 h2 e),λb h=>y.al b (x.al b h),λb c h f=>y.fl b c (x.sub b c h) (x.fl b c h f),λb c as tg cp en n h e=>by obtain⟨_,_,_,e1⟩:=x.ar b c as tg cp en n h e;exact y.ar b c as _ _ _ _ (x.sub b c h) e1,y.ok⟩
 by_cases z:R1 b=AC
 ·exact BJ λw=>x.al b w (y.new b h1 z)
 ·exact x.new b z h2
def Go.more{L':List AI}(x:Go L R st R1 st1)(h:∀a∈L,a∈L'):Go L' R st R1 st1:=⟨x.sub,x.new,λb o h1 h2=>x.kp b o h1 (λz=>h2 (h b z)),x.al,x.fl,x.ar,x.ok⟩
def O2.mono(s:∀b c,R b=AA c->R1 b=AA c)(h:O2 R c en n):O2 R1 c en n:=h.imp_right λ⟨e,ce,h1,h2,h3⟩=>⟨e,ce,h1,s _ _ h2,h3⟩
theorem L8(s:∀b c,R b=AA c->R1 b=AA c):∀{as:List AI}{es:List Cl},as.map R=es.map AA->as.map R1=es.map AA
 |[],[],_=>rfl
 |[],_::_,h=>by cases h
 |_::_,[],h=>by cases h
 |a::as,e::es,h=>by
  simp only[An,Ax]at h ⊢;exact⟨s _ _ h.1,L8 s h.2⟩
def BOk.sm(h:BOk R st)(e:R b=AA c):∃o,st b=AA o:=by obtain⟨_,_,_,_,_,x⟩:=h b c e;exact⟨_,x.at_⟩
def BOk.nn(h:BOk R st)(e:st b=AC):R b=AC:=by
 cases z:R b with
 |none=>rfl
 |some c=>obtain⟨o,x⟩:=BOk.sm h z;rw[e]at x;cases x
def S9{x:AI}(e:R b=AA c)(hx:R x=AC):b≠x:=λz=>by rw[z,hx]at e;cases e
def A8{es:List Cl}(h:as.map R=es.map AA):as.length=es.length:=by simpa using congrArg Dl h
def u9{es:List Cl}(h:as.map R=es.map AA)(hi:es[i]?=AA e):∃a,as[i]?=AA a/\R a=AA e:=by
 have:=congrArg (·[i]?) h;simp only[Aw,hi,Eg]at this;obtain⟨a,h1,h2⟩:=DI.mp this;exact⟨a,h1,h2⟩
def BOk.stay(h:BOk R st)(k:∀b o,R b≠AC->st b=AA o->st1 b=AA o):BOk R st1:=λb c e=>by
 obtain⟨as,tg,cp,en,n,x⟩:=h b c e;exact⟨as,tg,cp,en,n,k b _ (by rw[e];exact nofun) x.at_,x.as_,x.tg_,x.en_⟩
def Go.kpL(h:BOk R st)(k:Kp L st st1)(hL:∀a∈L,R a=AC)(al:∀a∈L,st1 a≠AC):Go L R st R st1:=by
 have kk:∀b o,R b≠AC->st b=AA o->st1 b=AA o:=λb o hb e=>k b o (λz=>hb (hL b z)) e;refine⟨λ_ _ h=>h,λ_ h1 h2=>absurd h2 h1,λb o _ h2 e=>k b o h2 e,λb hb=>?_,λb c e⟨as,cp,en,n,f⟩=>⟨as,cp,en,n,kk b _ (by rw[e];exact nofun) f⟩,λb c as tg cp en n h e=>⟨_,_,_,kk b _ (by rw[h];exact nofun) e⟩,BOk.stay h kk⟩
 by_cases z:b∈L
 ·exact al b z
 ·obtain⟨o,e⟩:=Bg.mp hb;rw[k b o z e];exact nofun
def Go.kp0(h:BOk R st)(k:Kp [] st st1):Go [] R st R st1:=Go.kpL h k ∎ ∎
def L7{p:Pg}{as':List AI}{tg' en':D}{cp':AI}{n':Nat}(h:AA (bdO p as tg cp en n)=AA (bdO p as' tg' cp' en' n')):as=as'/\tg=tg':=by
 have h0:=Ag h;clear h;injection h0 with _ h
 injection h with _ h
 injection h with h1 h
 injection h with h2 h
 have h3:=D.tup.inj (congrArg Prod.snd h1);refine⟨?_,congrArg Prod.snd h2⟩;clear h2 h h1
 induction as generalizing as' with
 |nil=>cases as' with
  |nil=>rfl
  |cons _ _=>cases h3
 |cons a as ih=>cases as' with
  |nil=>cases h3
  |cons b bs=>
   injection h3 with e1 e2
   cases e1;rw[ih e2]
abbrev G8(R:Bm)(b:AI)(c:Cl):Bm:=λx=>if x=b then AA c else R x
def ao7:G8 R b c b=AA c:=if_pos rfl
def Go.made(h:BOk R st)(hb:st b=AC)(k:Kp [] st st1)(e:st1 b=AA (bdO c.p as .non cp .non 0))(ha:as.map R=c.es.map AA):Go [] R st (G8 R b c) st1:=by
 have hR:=BOk.nn h hb;have s:∀x d,R x=AA d->G8 R b c x=AA d:=λx d e=>by unfold G8;rw[if_neg (λz=>by rw[z,hR]at e;cases e)];exact e
 refine⟨s,λx h1 h2=>?_,λx o _ h2 e=>k x o h2 e,λx hx=>?_,λx d e⟨as,cp,en,n,f⟩=>⟨as,cp,en,n,k x _ ∎ f⟩,λx d as tg cp en n h e=>⟨_,_,_,k x _ ∎ e⟩,λx d e'=>?_⟩
 ·by_cases z:x=b
  ·rw[z];exact hb
  ·unfold G8 at h1;rw[if_neg z]at h1;exact absurd h2 h1
 ·obtain⟨o,e⟩:=Bg.mp hx;rw[k x o ∎ e];exact nofun
 ·by_cases z:x=b
  ·subst z;rw[ao7]at e';cases e';exact⟨as,.non,cp,.non,0,e,L8 s ha,.inl rfl,.inl rfl⟩
  ·unfold G8 at e';rw[if_neg z]at e';obtain⟨as,tg,cp,en,n,y⟩:=h x d e';exact⟨as,tg,cp,en,n,k x _ ∎ y.at_,L8 s y.as_,y.tg_,y.en_.mono s⟩
end
structure PBd(P:f6)(G:Gs):Prop extends PNm P G where
 bini:P (c6 "Bound" "__init__")=AA aa1
 blet:P "behind_let"=AA aa4
 bform:P "behind_form"=AA aa2
 allp:P "all_parts"=AA ab1
 wfst:P "with_first"=AA aa5
 ptog:P "put_together"=AA O3
 nbnd:P "names_bound"=AA aa3
 fill:P "fill"=AA ac6
 stnd:P "standing"=AA ab6
 spks:P "speaks_of_others"=AA Z9
 bcls:G.cls "Bound"=([("program":Str),("around":Str),("together":Str),("copies":Str),("has_names":Str),("end":Str),("steps":Str)]:List Str)
section
variable (T:PBd P G) 
include T
def br6{p:Pg}(h0:st b=AC)(q:∀cp,cp≠b->st cp=AC->Q .non (b7 (b7 st cp (.dct [])) b (bdO p as .non cp .non 0))):sem P G (n+1) (c6 "Bound" "__init__") [.ref b,p.d,.tup (as.map D.ref)] (b7 st b (.ins "Bound" [])) Q:=by
 refine f7 T.bini rfl [AA (.ref b),AA p.d,AA (.tup (as.map D.ref))] rfl ?_;unfold aa1;have hc:∀f∈([("program":Str),("around":Str),("together":Str),("copies":Str),("has_names":Str),("end":Str),("steps":Str)]:List Str),f∈G.cls "Bound":=λf hf=>by rw[T.bcls];exact hf
 ∎;refine⟨b,"Bound",_,rfl,b8,hc _ ∎,∅,?_⟩;rw[x8];∎;refine⟨b,"Bound",_,rfl,b8,hc _ ∎,by simp[g7],?_⟩;rw[x8];∎;refine⟨b,"Bound",_,rfl,b8,hc _ ∎,by simp[g7,f8],?_⟩;rw[x8];∎;intro cp hcp;have hne:b≠cp:=k9 b8 hcp;have hcp0:st cp=AC:=by rw[i9 hne.symm]at hcp;exact hcp
 have sw:∀{o o':Ob},b7 (b7 (b7 st b o) cp (.dct [])) b o'=b7 (b7 st cp (.dct [])) b o':=λ{o o'}=>funext λx=>by
  unfold b7
  by_cases h1:x=b
  ·simp[h1]
  ·simp[h1]
 refine⟨b,"Bound",_,rfl,g8 b8 hne,hc _ ∎,by simp[g7,f8],?_⟩;rw[sw];∎;refine⟨b,"Bound",_,rfl,b8,hc _ ∎,by simp[g7,f8],?_⟩;rw[x8];∎;refine⟨b,"Bound",_,rfl,b8,hc _ ∎,by simp[g7,f8],?_⟩;rw[x8];∎;refine⟨b,"Bound",_,rfl,b8,hc _ ∎,by simp[g7,f8],?_⟩;rw[x8];refine t5 ?_;have:=q cp hne.symm hcp0;simpa[g7,f8,bdO,bdF]using this
def P1{p:Pg}{as:List AI}{es:List Cl}{Q1:Sto->Prop}(h:BOk R st)(ha:as.map R=es.map AA)(hb:st b=AC)(q:∀R' st',R' b=AA (.mk p es)->Go [] R st R' st'->Q1 st'):
  (Zg P G (n+2)).Mk (c6 "Bound" "__init__") [.ref b,p.d,.tup (as.map D.ref)] (b7 st b (.ins "Bound" [])) λv st2=>v=.non/\Q1 st2:=by
 have z:=aj0 (n:=n+1) (br6 (n:=n) (Q:=λv st2=>v=.non/\Q1 st2) (p:=p) (as:=as) T hb λcp hne hcp=>⟨rfl,q (G8 R b (.mk p es)) _ ao7 (Go.made (c:=.mk p es) h hb (λx o _ e=>g8 (j6 e hcp) (k9 e hb)) b8 ha)⟩);exact z
end
section
variable (T:PBd P G) 
include T
def T6{f:Str}(h:f∈([("program":Str),("around":Str),("together":Str),("copies":Str),("has_names":Str),("end":Str),("steps":Str)]:List Str)):f∈G.cls "Bound":=by rw[T.bcls];exact h
def fb{f:Str}{d:D}{p:Pg}{k:Nat}(hb:st b=AA (bdO p as tg cp en k))(hf:f∈([("program":Str),("around":Str),("together":Str),("copies":Str),("has_names":Str),("end":Str),("steps":Str)]:List Str))(hl:(bdF p as tg cp en k).lookup f=AA d)(q:Q1 d):
  ∃q c fs d,D.ref b=.ref q/\st q=AA (.ins c fs)/\f∈G.cls c/\fs.lookup f=AA d/\Q1 d:=⟨b,"Bound",_,d,rfl,hb,T6 T hf,hl,q⟩
def j7{p:Pg}{k:Nat}(hb:st b=AA (bdO p as tg cp en k))(q:Q1 p.d):∃q c fs d,D.ref b=.ref q/\st q=AA (.ins c fs)/\("program":Str)∈G.cls c/\fs.lookup ("program":Str)=AA d/\Q1 d:=fb T hb ∎ rfl q
def v9{p:Pg}{k:Nat}(hb:st b=AA (bdO p as tg cp en k))(q:Q1 (.tup (as.map D.ref))):∃q c fs d,D.ref b=.ref q/\st q=AA (.ins c fs)/\("around":Str)∈G.cls c/\fs.lookup ("around":Str)=AA d/\Q1 d:=fb T hb ∎ rfl q
def T3:(Zg P G (n+1)).MF (c6 "Bound" "__init__")=AB:=by show(AB&&(P _).isSome)=AB;rw[T.bini];rfl
def F8{k:Nat}{p:Pg}{d:D}(hb:st b=AA (bdO p as tg cp en j))(ei:env[i]?=AA (AA (.ref b)))(hk:∃l,p.d=.tup l/\l[k]?=AA d)(q:Q d st):wpE (Zg P G n) (.ix (.fld (.v i) "program") (.int k)) env st Q:=by
 obtain⟨l,e1,e2⟩:=hk;refine⟨_,ei,j7 T (Q1:=λd=>wpE (Zg P G n) (.int k) env st λy st2=>ixR d y st2 Q) hb ?_⟩;rw[e1];exact⟨d,by rw[o7];exact e2,q⟩
@[reducible]noncomputable def cx5(x y:E)(i j:Nat):E:=.make "Bound" (.cons x (.cons (.bin .Add (.tup (.cons (.make "Bound" (.cons y (.cons (.fld (.v i) "around") .nil))) .nil)) (.fld (.v j) "around")) .nil))
def ah3{g g2:AI}{cg cg2:Cl}{x y:E}{px py:Pg}(h:BOk R st)(eg:R g=AA cg)(eg2:R g2=AA cg2)(hl:cg2.es.length<1000)(ei:env[i]?=AA (AA (.ref g)))(ej:env[j]?=AA (AA (.ref g2)))
  (hx:∀K:DK,K px.d st->wpE (Zg P G (n+2)) x env st K) (hy:∀K:DK,K py.d st->wpE (Zg P G (n+2)) y env st K) (q:∀b' R' st',R' b'=AA (.mk px (.mk py cg.es::cg2.es))->Go [] R st R' st'->Q (.ref b') st'):wpE (Zg P G (n+2)) (cx5 x y i j) env st Q:=by
 obtain⟨as,_,_,_,_,B⟩:=h g cg eg;refine⟨T3 T,hx _ ⟨T3 T,hy _ ⟨_,ei,v9 T B.at_ ?_⟩⟩⟩;intro b1 h1;refine P1 T h B.as_ h1 λR1 st1 e1 g1=>?_;obtain⟨as',_,_,_,_,B'⟩:=g1.ok g2 _ (g1.sub g2 _ eg2);refine⟨_,ej,v9 T B'.at_ ?_⟩;refine⟨u8 (by simp only[AX,Ak];rw[A8 B'.as_];lia),λb2 h2=>?_⟩;exact P1 T (as:=b1::as') (es:=.mk py cg.es::cg2.es) g1.ok (by rw[An,An,e1];exact congrArg _ B'.as_) h2 λR2 st2 e2 g2=>q b2 R2 st2 e2 (g1.trans g2)
def Q8{g:AI}{cg:Cl}{x:E}{px:Pg}(h:BOk R st)(eg:R g=AA cg)(ei:env[i]?=AA (AA (.ref g)))
  (hx:∀K:DK,(∀st',Kp [] st st'->K px.d st')->wpE (Zg P G (n+2)) x env st K) (q:∀b' R' st',R' b'=AA (.mk px cg.es)->Go [] R st R' st'->Q (.ref b') st'):wpE (Zg P G (n+2)) (.make "Bound" (.cons x (.cons (.fld (.v i) "around") .nil))) env st Q:=by
 refine⟨T3 T,hx _ λst' K=>?_⟩;have g0:=Go.kp0 h K;obtain⟨as,_,_,_,_,B⟩:=g0.ok g cg eg;refine⟨_,ei,v9 T B.at_ ?_⟩;exact λb1 h1=>P1 T g0.ok B.as_ h1 λR1 st1 e1 g1=>q b1 R1 st1 e1 (g0.trans g1)
def V5(h:BOk R st)(e:R b=AA c)(hl:c.es.length<1000)(q0:(∀t u,c.p≠.lets t u)->Q .non st)(q:∀t u b' R' st',c.p=.lets t u->R' b'=AA (.mk u (.mk t c.es::c.es))->Go [] R st R' st'->Q (.ref b') st'):sem P G (n+3) "behind_let" [.ref b] st Q:=by
 obtain⟨as,tg,cp,en,k,B⟩:=h b c e;have hb:=B.at_;refine f7 T.blet rfl [AA (.ref b)] rfl ?_;unfold aa4;∎;refine j7 T hb ?_
 by_cases z:∃t u,c.p=.lets t u
 ·obtain⟨t,u,z⟩:=z;rw[z];simp only[Pg.d];rfl';refine u3 (ah3 T h e e hl rfl rfl (px:=u) (py:=t) (λK hK=>F8 T (k:=2) hb rfl ⟨_,by rw[z];rfl,rfl⟩ hK) (λK hK=>F8 T (k:=1) hb rfl ⟨_,by rw[z];rfl,rfl⟩ hK) λb' R' st' e' g=>b9 (q t u b' R' st' z e' g))
 ·have z0:=q0 λt u w=>z ⟨t,u,w⟩;cases hp:c.p
  case lets t u=>exact absurd ⟨t,u,hp⟩ z
  all_goals
   simp only[Pg.d];rfl';∎;exact b9 z0
def au0{f:AI}{cf:Cl}(h:BOk R st)(ef:R f=AA cf)(e:R b=AA c)(hc:cf.bh c=AA c')(hl:cf.es.length<1000)(hl2:c.es.length<1000)(q:∀b' R' st',R' b'=AA c'->Go [] R st R' st'->Q (.ref b') st'):sem P G (n+3) "behind_form" [.ref f,.ref b] st Q:=by
 obtain⟨fs,tg1,cp1,en1,k1,F⟩:=h f cf ef;obtain⟨as,tg,cp,en,k,B⟩:=h b c e;obtain⟨p,es⟩:=cf;obtain⟨v,gs⟩:=c;have hf:=F.at_;have hb:=B.at_;refine f7 T.bform rfl [AA (.ref f),AA (.ref b),AC,AC] rfl ?_;unfold aa2;∎;refine j7 T hf ?_;cases p<;>first|(cases hc;done)|skip
 all_goals
  cases v<;>first|(cases hc;done)|skip
  all_goals
   cases hc;simp only[Cl.p,Cl.es,Pg.d];rfl'
 all_goals (∎)
 case first.pair.refl t u v=>
  ∎;refine j7 T hb ?_;simp only[Cl.p,Pg.d];rfl';exact u3 (Q8 T (i:=1) h e rfl (px:=u) (λK hK=>F8 T (k:=1) hb rfl ⟨_,rfl,rfl⟩ (hK _ Kp.refl)) λb' R' st' e' g=>b9 (q b' R' st' e' g))
 case second.pair.refl t u v=>
  (iterate 2 ∎);refine j7 T hb ?_;simp only[Cl.p,Pg.d];rfl';exact u3 (Q8 T (i:=1) h e rfl (px:=v) (λK hK=>F8 T (k:=2) hb rfl ⟨_,rfl,rfl⟩ (hK _ Kp.refl)) λb' R' st' e' g=>b9 (q b' R' st' e' g))
 case give.way.refl t u k v=>
  refine j7 T hb ?_;simp only[Cl.p,Pg.d];rfl';exact u3 (ah3 T (i:=0) (j:=1) h ef e hl2 rfl rfl (px:=v) (py:=u) (λK hK=>F8 T (k:=2) hb rfl ⟨_,rfl,rfl⟩ hK) (λK hK=>F8 T (k:=2) hf rfl ⟨_,rfl,rfl⟩ hK) λb' R' st' e' g=>b9 (q b' R' st' e' g))
 all_goals
  (iterate 3 ∎);refine j7 T hb ?_;simp only[Cl.p,Pg.d];rfl';refine⟨g9 _,by simp only[u4,u6,g9,BU],Ao _,?_⟩;simp only[CW,EN,i8,f8,BZ,decide_true,decide_false,Bv,Bj,Bk,BS,if_true];rfl';∎;refine j7 T hb ?_;simp only[Cl.p,Pg.d];rfl';refine j7 T hf ?_;simp only[Cl.p,Pg.d];rfl';exact u3 (ah3 T (i:=1) (j:=0) h e ef hl rfl rfl (λK hK=>⟨_,rfl,hK⟩) (λK hK=>F8 T (k:=2) hb rfl ⟨_,rfl,rfl⟩ hK) λb' R' st' e' g=>b9 (q b' R' st' e' g))
end
inductive Prt:Pg×Nat->Pg×Nat->Prop
 |self {t:Pg×Nat}:Prt t t
 |kid {t c d:Pg×Nat}:c∈t.1.kidsU t.2->Prt c d->Prt t d
theorem Prt.hgt{t c:Pg×Nat}(h:Prt t c):c.2+c.1.hgt<=t.2+t.1.hgt:=by
 induction h with
 |self=>exact AW _
 |kid h _ ih=>exact Ay ih (Pg.hgt_U _ _ _ h)
def bs2{p:Pg}(h:p.cls (u+m)):∀c∈p.kidsU u,c.1.cls (c.2+m):=by
 have e:u+m+1=u+1+m:=by lia
 cases p<;>simp[Pg.kidsU,Pg.kids,Pg.more,Br,BW]<;>simp only[Pg.cls,e]at h<;>first|exact h|(refine⟨?_,?_⟩<;>first|exact h.1|exact h.2)|exact⟨h.1,h.2.1,h.2.2⟩
theorem Prt.cls{t c:Pg×Nat}(h:Prt t c):t.1.cls (t.2+m)->c.1.cls (c.2+m):=by
 induction h with
 |self=>exact id
 |kid h _ ih=>exact λz=>ih (bs2 z _ h)
def bp7{α:Type}{P:α->Prop}{l:List α}{x:α}:(∃t∈l++[x],P t)↔(∃t∈l,P t)\/P x:=by
 constructor
 ·rintro⟨t,h,p⟩
  rcases BR.mp h with h|h
  ·exact .inl ⟨t,h,p⟩
  ·rw[BQ]at h;subst h;exact .inr p
 ·rintro(⟨t,h,p⟩|p)
  ·exact⟨t,by simp[h],p⟩
  ·exact⟨x,∎,p⟩
def bu6{t d:Pg×Nat}:Prt t d↔d=t\/∃c∈t.1.kidsU t.2,Prt c d:=by
 constructor
 ·intro h;cases h with
  |self=>exact .inl rfl
  |kid h1 h2=>exact .inr ⟨_,h1,h2⟩
 ·rintro(rfl|⟨c,h1,h2⟩)
  ·exact .self
  ·exact .kid h1 h2
section
variable (T:PBd P G) 
include T
def ay4{p:Pg}(hn:5<=n)(hp:p.parts<=2000)(q:∀a(cs:List (Pg×Nat))st',st a=AC->st' a=AA (.lst (cs.map j9))->(∀c,c∈cs↔Prt (p,0) c)->cs.length<=2000->Kp [] st st'->Q (.ref a) st'):sem P G n "all_parts" [p.d] st Q:=by
 obtain⟨n,rfl⟩:∃m,n=m+5:=⟨n-5,⋯⟩;refine f7 T.allp rfl [AA p.d,AC,AC,AC,AC] rfl ?_;unfold ab1;∎;intro fa hfa;(iterate 2 ∎);refine⟨by rw[T.mop];rfl,by rw[T.under];rfl,?_⟩;have e0:(D.tup [p.d,.int 0])=j9 (p,0):=rfl;rw[e0];refine bq8 T.toPM (n:=n+2) (T:=Pg×Nat) (enc:=j9) (subs:=λc=>c.1.kidsU c.2) (size:=λc=>c.1.parts) (Dk:=λ_=>True) (L:=[fa]) (λc=>Pg.parts_U c.1 c.2) (λ_ _ _ _=>trivial) (F:=.fn "inner_under") (show(P _).isSome=AB by rw[T.under];rfl) (show Cok P (.clo _ _ _ _) from trivial) (p,0) hp trivial (by simp;exact⟨_,b8⟩)
  (Y:=λdn S ds st'=>∃cs:List (Pg×Nat),st' fa=AA (.lst (cs.map j9))/\(∀c,c∈cs↔∃t∈S,Prt t c)/\cs.length=(S.map λc=>c.1.parts).sum) ?_ ?_ ?_ ?_ ?_ ?_
 ·rintro dn S ds st1 ⟨L,h,_⟩ a ha;simp at ha;subst ha;exact⟨_,h⟩
 ·intro dn st' hdn K;exact⟨[],K.at' b8 ∎,∎,rfl⟩
 ·rintro dn S ds st1 st2 hdn ⟨L,h1,h2,h3⟩ K;exact⟨L,K.at' h1 (by simp;exact λz=>by rw[<-z,b8]at hdn;cases hdn),h2,h3⟩
 ·rintro⟨c,u⟩ st' Q _ K k;exact aq6 T.toPNm c u ⋯ λa st2 ha h2 K2=>k _ st2 (.inr ⟨a,rfl,ha,h2⟩) K2
 ·rintro⟨c,u⟩ dn la st' Q S ds xs _ K hdn hlaL hne hl0 hla hlen hl2 ⟨L,h1,h2,h3⟩ hd hsum k;refine V6 rfl [AA (j9 (c,u)),AA (.ref la),AA (.ref fa)] rfl ?_;have pU:=Pg.parts_U c u;rw[Al,Dv]at h3;have hsum:(S.map λc=>c.1.parts).sum+c.parts<=p.parts:=hsum;have h3:L.length=(S.map λc=>c.1.parts).sum+((c.kidsU u).map λc=>c.1.parts).sum:=h3;∎;rw[u1 (.inl h1),z5 h1];refine⟨trivial,B7 (by rw[AX];lia),?_⟩;∎;refine b9 (k _ _ ⟨L++[(c,u)],by rw[b8,Al];rfl,λd=>?_,?_⟩ (λb o hb _ ho=>g8 ho (by simpa using hb)) (K.put ∎))
  ·rw[BR,BQ,h2,bp7];constructor
   ·rintro(⟨t,ht,hx⟩|rfl)
    ·rcases BR.mp ht with ht|ht
     ·exact .inl ⟨t,ht,hx⟩
     ·exact .inr (.kid ht hx)
    ·exact .inr .self
   ·rintro(⟨t,ht,hx⟩|hx)
    ·exact .inl ⟨t,CI _ ht,hx⟩
    ·rcases bu6.mp hx with rfl|⟨y,h4,h5⟩
     ·exact .inr rfl
     ·exact .inl ⟨y,BF _ h4,h5⟩
  ·rw[AU,h3,Al,Dv];simp only[Ak,An,Dx,Fv,KB];lia
 ·rintro dn d st' hdn ⟨L,h1,h2,h3⟩ K;∎;refine b9 (q fa L st' hfa h1 (λd=>?_) (by simp at h3;lia) λb o _ e=>K.at' (j6 e hfa) (by simp;exact k9 e hfa));rw[h2];simp
end
abbrev Fr(p:Pg)(x:Int):Prop:=∃m u,Prt (p,0) (.name m,u)/\x=(m:Int)-u
section
variable (T:PBd P G) {k:Nat}
include T
def av8(hn:6<=n)(B:st b=AA (bdO c.p as tg cp en k))(hl:as.length=c.es.length)(hp:c.p.parts<=2000)(hc:c.p.cls c.es.length)(hC:c.es.length+c.p.hgt<=60)
  (q:∀a(xs:List AI)st',st a=AC->st' a=AA (.lst (xs.map D.ref))->xs.length<64->(∀x∈xs,∃i:Nat,as[i]?=AA x/\Fr c.p i)->(∀(i:Nat)x,Fr c.p i->as[i]?=AA x->x∈xs)->Kp [] st st'->Q (.ref a) st'):sem P G n "names_bound" [.ref b] st Q:=by
 obtain⟨n,rfl⟩:∃m,n=m+6:=⟨n-6,⋯⟩;refine f7 T.nbnd rfl [AA (.ref b),AC,AC] rfl ?_;unfold aa3;∎;refine v9 T B ?_;rfl';∎;refine⟨by rw[T.allp];rfl,j7 T B ?_⟩;refine ay4 T ⋯ hp λla cs st1 hla h1 h2 h3 K1=>?_;rfl';refine⟨_,.inl h1,by rw[AX];lia,?_⟩;refine D0 (λl acc env' st'=>st'=st1/\∃(pre suf:List (Pg×Nat))(ns:List Int)(x y:Option D),cs=pre++suf/\l=suf.map j9/\acc=ns.map D.int/\(∀z,z∈ns↔∃m u,(Pg.name m,u)∈pre/\z=(m:Int)-(u:Nat))/\env'=[x,y]) ?_ ?_ _ _ _ _ ⟨rfl,[],cs,[],AC,AC,rfl,rfl,rfl,∎,rfl⟩
 ·rintro acc env' st' ⟨rfl,pre,suf,ns,x,y,e1,e2,rfl,e3,rfl⟩;refine⟨.inl h1,λna hna=>?_⟩;have hs:suf=[]:=by cases suf with|nil=>rfl|cons _ _=>cases e2
  subst hs;rw[Be]at e1;subst e1;have fr:∀z,z∈ns↔Fr c.p z:=λz=>by
   rw[e3];exact⟨λ⟨m,u,hm,e⟩=>⟨m,u,(h2 _).mp hm,e⟩,λ⟨m,u,hm,e⟩=>⟨m,u,(h2 _).mpr hm,e⟩⟩
  ∎;refine⟨ns,(BG (c.p.hgt+c.es.length)).map λ(i:Nat)=>(i:Int)-c.p.hgt,.inl b8,λz hz=>?_,by rw[AX,Gi];lia,λts pa htl hts hpa=>?_⟩
  ·obtain⟨m,u,hm,rfl⟩:=(fr z).mp hz;have a1:=hm.hgt;have a2:m<u+c.es.length:=hm.cls (m:=c.es.length) (by rw[Ch];exact hc);simp only[Pg.hgt]at a1;exact mem_map.mpr ⟨m+c.p.hgt-u,Do.mpr ⋯,⋯⟩
  rfl';refine⟨_,.inl b8,by rw[AX];lia,?_⟩;have B2:(b7 (b7 st' na (.lst (ns.map D.int))) pa (.lst (ts.map D.int))) b=AA (bdO c.p as tg cp en k):=j6 (j6 (K1.at' B ∎) hna) hpa;have hla:(((as.map D.ref).length:Nat):Int)=(as.length:Nat):=by rw[AX]
  rw[hla];refine D0 (λl acc env' st2=>st2=b7 (b7 st' na (.lst (ns.map D.int))) pa (.lst (ts.map D.int))/\∃(pre suf:List Int)(xs:List AI)(x:Option D),ts=pre++suf/\l=suf.map D.int/\acc=xs.map D.ref/\xs.length<=pre.length/\(∀z∈xs,∃i:Nat,as[i]?=AA z/\(i:Int)∈pre)/\(∀(i:Nat)z,(i:Int)∈pre->as[i]?=AA z->z∈xs)/\env'=[AA (.ref b),AA (.int (as.length:Nat)),x]) ?_ ?_ _ _ _ _ ⟨rfl,[],ts,[],AC,rfl,rfl,rfl,AW _,∎,∎,rfl⟩
  ·rintro acc env' st2 ⟨rfl,pre,suf,xs,x,f1,f2,rfl,f3,f4,f5,rfl⟩;refine⟨.inl b8,λra hra=>?_⟩;have hs:suf=[]:=by cases suf with|nil=>rfl|cons _ _=>cases f2
   subst hs;rw[Be]at f1;subst f1;have K3:Kp [] st (b7 (b7 st' na (.lst (ns.map D.int))) pa (.lst (ts.map D.int))):=(K1.new hna).new hpa;exact b9 (q ra xs _ (none_of K3 hra) b8 ⋯ (λz hz=>by obtain⟨i,g1,g2⟩:=f4 z hz;exact⟨i,g1,(fr _).mp ((hts _).mp g2)⟩) (λi z hi hz=>f5 i z ((hts _).mpr ((fr _).mpr hi)) hz) (K3.new hra))
  ·rintro d ds acc env' st2 ih ⟨rfl,pre,suf,xs,x,f1,f2,rfl,f3,f4,f5,rfl⟩;refine⟨.inl b8,?_⟩;cases suf with
   |nil=>cases f2
   |cons z suf=>
    simp only[An,Ax]at f2;obtain⟨rfl,rfl⟩:=f2;rfl';have no:¬(0<=z/\z<(as.length:Nat))->∃(pre' suf':List Int)(xs':List AI)(x:Option D),ts=pre'++suf'/\suf.map D.int=suf'.map D.int/\xs.map D.ref=xs'.map D.ref/\xs'.length<=pre'.length/\(∀z∈xs',∃i:Nat,as[i]?=AA z/\(i:Int)∈pre')/\(∀(i:Nat)z,(i:Int)∈pre'->as[i]?=AA z->z∈xs')/\[AA (D.ref b),AA (.int (as.length:Nat)),AA (.int z)]=[AA (.ref b),AA (.int (as.length:Nat)),x]:=λhz=>by
     refine⟨pre++[z],suf,xs,_,by rw[f1];simp,rfl,rfl,by rw[AU];lia,λy hy=>?_,λi y hi hy=>?_,rfl⟩
     ·obtain⟨i,g1,g2⟩:=f4 y hy;exact⟨i,g1,CI _ g2⟩
     ·rcases BR.mp hi with hi|hi
      ·exact f5 i y hi hy
      ·rw[BQ]at hi;have:=(Ac.mp hy).1;exact absurd ⟨⋯,⋯⟩ hz
    by_cases h0:0<=z
    ·rw[if_pos h0];rfl'
     by_cases h5:z<(as.length:Nat)
     ·rw[if_pos h5];refine v9 T B2 ?_;obtain⟨i,rfl⟩:=CO h0;have hi:i<as.length:=by lia
      refine⟨.ref as[i],by rw[o7,Aw,AM hi];rfl,?_⟩;refine ih _ _ _ ⟨rfl,pre++[(i:Int)],suf,xs++[as[i]],_,by rw[f1];simp,rfl,∎,by simp only[AU,Ak];lia,λy hy=>?_,λj y hj hy=>?_,rfl⟩
      ·rcases BR.mp hy with hy|hy
       ·obtain⟨i,g1,g2⟩:=f4 y hy;exact⟨i,g1,CI _ g2⟩
       ·rw[BQ]at hy;subst hy;exact⟨i,AM hi,∎⟩
      ·rcases BR.mp hj with hj|hj
       ·exact CI _ (f5 j y hj hy)
       ·rw[BQ]at hj;have:j=i:=by lia
        subst this;rw[AM hi]at hy;cases hy;simp
     ·rw[if_neg h5];exact ih _ _ _ ⟨rfl,no (λw=>h5 w.2)⟩
    ·rw[if_neg h0];rfl';exact ih _ _ _ ⟨rfl,no (λw=>h0 w.1)⟩
 ·rintro d ds acc env' st' ih ⟨rfl,pre,suf,ns,x,y,e1,e2,rfl,e3,rfl⟩;refine⟨.inl h1,?_⟩;cases suf with
  |nil=>cases e2
  |cons z suf=>
   simp only[An,Ax]at e2;obtain⟨rfl,rfl⟩:=e2;obtain⟨z,u⟩:=z;unfold j9;rfl';have mem:∀{ns':List Int},(∀w,w∈ns'↔w∈ns\/∃m,z=.name m/\w=(m:Int)-u)->(∀w,w∈ns'↔∃m v,(Pg.name m,v)∈pre++[(z,u)]/\w=(m:Int)-(v:Nat)):=λh w=>by
    rw[h,e3];constructor
    ·rintro(⟨m,v,h1,h2⟩|⟨m,rfl,h2⟩)
     ·exact⟨m,v,CI _ h1,h2⟩
     ·exact⟨m,u,∎,h2⟩
    ·rintro⟨m,v,h1,h2⟩
     rcases BR.mp h1 with h1|h1
     ·exact .inl ⟨m,v,h1,h2⟩
     ·rw[BQ]at h1;cases h1;exact .inr ⟨m,rfl,h2⟩
   cases z
   case name m=>
    simp only[Pg.d];rfl';exact ih _ _ _ ⟨rfl,pre++[(.name m,u)],suf,ns++[(m:Int)-u],_,_,by rw[e1];simp,rfl,∎,mem λw=>∎,rfl⟩
   all_goals
    simp only[Pg.d];rfl';exact ih _ _ _ ⟨rfl,_,suf,ns,_,_,by rw[e1,Bz];rfl,rfl,rfl,mem λw=>∎,rfl⟩
end
section
variable {k:Nat}
def Go.fill(h:BOk R st)(e:R b=AA c)(B:BAt R st b c as tg cp en k):Go [] R st R (b7 st b (bdO c.p as c.den.d cp en k)):=by
 have ne:∀{x:AI},x≠b->b7 st b (bdO c.p as c.den.d cp en k) x=st x:=λz=>i9 z;refine⟨λ_ _ h=>h,λ_ h1 h2=>absurd h2 h1,λx o h1 _ e1=>by rw[ne (λz=>by rw[z,e]at h1;cases h1)];exact e1,λx hx=>?_,λx d hd⟨as',cp',en',k',f⟩=>?_,λx d as' tg' cp' en' k' hd f=>?_,λx d hd=>?_⟩
 ·by_cases z:x=b
  ·rw[z,b8];exact nofun
  ·rw[ne z];exact hx
 ·by_cases z:x=b
  ·subst z;rw[e]at hd;cases hd;exact⟨as,cp,en,k,b8⟩
  ·exact⟨as',cp',en',k',by rw[ne z];exact f⟩
 ·by_cases z:x=b
  ·subst z;rw[e]at hd;cases hd;rw[B.at_]at f;obtain⟨rfl,rfl⟩:=L7 f;cases f;exact⟨_,_,_,b8⟩
  ·exact⟨_,_,_,by rw[ne z];exact f⟩
 ·by_cases z:x=b
  ·subst z;rw[e]at hd;cases hd;exact⟨as,_,cp,en,k,b8,B.as_,.inr rfl,B.en_⟩
  ·obtain⟨as',tg',cp',en',k',y⟩:=h x d hd;exact⟨as',tg',cp',en',k',by rw[ne z];exact y.at_,y.as_,y.tg_,y.en_⟩
def bs4{p:Pg}{d:D}:g7 "together" d (bdF p as tg cp en k)=bdF p as d cp en k:=by simp[g7,f8,bdF]
def bu8{p:Pg}:g7 "has_names" (.bl AH) (bdF p as tg cp en k)=bdF p as tg cp en k:=by simp[g7,f8,bdF]
end
structure Wk(c:Cl):Prop where
 pt:c.p.parts<=2000
 cl:c.p.cls c.es.length
 hg:c.es.length+c.p.hgt<=60
section
variable (T:PBd P G) {k:Nat}
include T
def bz4{p:Pg}(B:st b=AA (bdO p as tg cp en k))(q:Q tg st):sem P G (n+1) "standing" [.ref b,.int u] st Q:=by
 refine f7 T.stnd rfl [AA (.ref b),AA (.int u)] rfl ?_;unfold ab6;∎;refine fb T B ∎ rfl ?_;rfl';∎;exact fb T B ∎ rfl (b9 q)
theorem a52:((AY m AH).any id)=AH:=by induction m with|zero=>rfl|succ m ih=>rw[CV,CW,ih];rfl
def bt3(hn:6<=n)(B:st b=AA (bdO c.p as tg cp en k))(hl:as.length=c.es.length)(W:Wk c)(q:∀st',Kp [] st st'->Q (.bl AH) st'):sem P G n "speaks_of_others" [.ref b] st Q:=by
 obtain⟨n,rfl⟩:∃m,n=m+6:=⟨n-6,⋯⟩;refine f7 T.spks rfl [AA (.ref b),AC,AC] rfl ?_;unfold Z9;∎;refine v9 T B ?_;rfl';∎;refine⟨by rw[T.allp];rfl,j7 T B ?_⟩;refine ay4 T ⋯ W.pt λla cs st1 hla h1 h2 h3 K1=>?_;∎;refine⟨_,.inl h1,by rw[AX];lia,?_⟩;refine D0 (λl acc env' st'=>st'=st1/\∃(suf:List (Pg×Nat))(m:Nat)(x y:Option D),(∀c∈suf,c∈cs)/\l=suf.map j9/\acc=(AY m AH).map D.bl/\env'=[AA (.int ((as.map D.ref).length:Nat)),x,y]) ?_ ?_ _ _ _ _ ⟨rfl,cs,0,AC,AC,λ_ h=>h,rfl,rfl,rfl⟩
 ·rintro acc env' st' ⟨rfl,suf,m,x,y,e1,e2,rfl,rfl⟩;refine⟨.inl h1,λna hna=>?_⟩;refine⟨_,.inl b8,?_⟩;rw[a52 T];exact b9 (q _ (K1.new hna))
 ·rintro d ds acc env' st' ih ⟨rfl,suf,m,x,y,e1,e2,rfl,rfl⟩;refine⟨.inl h1,?_⟩;cases suf with
  |nil=>cases e2
  |cons z suf=>
   simp only[An,Ax]at e2;obtain⟨rfl,rfl⟩:=e2;have hz:=(h2 z).mp (e1 z ∎);obtain⟨z,u⟩:=z;unfold j9;rfl';have nx:∀(x y:Option D),∃(suf':List (Pg×Nat))(m':Nat)(x' y':Option D),(∀c∈suf',c∈cs)/\suf.map j9=suf'.map j9/\(AY m AH).map D.bl++[.bl AH]=(AY m' AH).map D.bl/\[AA (D.int ((as.map D.ref).length:Nat)),x,y]=[AA (.int ((as.map D.ref).length:Nat)),x',y']:=λx y=>⟨suf,m+1,x,y,λc h=>e1 c (by simp[h]),rfl,by rw[IF,Al];rfl,rfl⟩;cases z
   case name j=>
    have a2:j<u+c.es.length:=hz.cls (m:=c.es.length) (by rw[Ch];exact W.cl);simp only[Pg.d];rfl';rw[decide_eq_false (by rw[AX];lia)];exact ih _ _ _ ⟨rfl,nx _ _⟩
   all_goals
    simp only[Pg.d];rfl';exact ih _ _ _ ⟨rfl,nx _ _⟩
def bs5(hn:12<=n)(h:BOk R st)(e:R b=AA c)(B:BAt R st b c as tg cp en k)(W:Wk c)(hf:∀(i:Nat)x e',as[i]?=AA x->c.es[i]?=AA e'->Fr c.p i->Fl st x e')(q:∀st',Go [] R st R st'->Fl st' b c->Q .non st'):sem P G n "fill" [.ref b] st Q:=by
 obtain⟨n,rfl⟩:∃m,n=m+12:=⟨n-12,⋯⟩;have hl:=A8 B.as_;have B0:=B.at_;refine f7 T.fill rfl [AA (.ref b),AC,AC,AC,AC,AC] rfl ?_;unfold ac6;∎;refine v9 T B0 ?_;rfl';(iterate 2 ∎);refine⟨by rw[T.wparts];rfl,j7 T B0 ?_⟩;refine bi7 T.toPNm (f:=msF (Cl.dens c.es)) (L:=b::as) (Jv:=λs=>∀a∈b::as,s a=st a) (Hd:=λd u=>∀m v,Prt (d,u) (.name m,v)->Prt (c.p,0) (.name m,v)) (λd u hd c' hc' m v hp=>hd m v (.kid hc' hp)) (show Cok P (.clo _ _ _ _) from trivial) (λ{s s' K}j hK kp a ha=>?_) (λ{s}j a ha=>?_) W.pt (m:=c.p.hgt) (AW _) (λ_ _ h=>h) ⋯ (λ_ _=>rfl) (λk' d u st' Q' hk hu hd j kp q'=>?_) (λst1 j kp=>?_)
 ·obtain⟨o,eo⟩:∃o,s a=AA o:=by
   rw[j a ha]
   rcases Ae.mp ha with rfl|ha
   ·exact⟨_,B0⟩
   ·obtain⟨i,hi,rfl⟩:=Ea ha;have hi':i<c.es.length:=by lia
    obtain⟨x,h1,h2⟩:=u9 B.as_ (AM hi');rw[AM hi]at h1;cases h1;exact BOk.sm h h2
  rw[kp a o (λz=>hK a ha z) eo,<-j a ha,eo]
 ·rw[j a ha]
  rcases Ae.mp ha with rfl|ha
  ·exact⟨_,B0⟩
  ·obtain⟨i,hi,rfl⟩:=Ea ha;have hi':i<c.es.length:=by lia
   obtain⟨x,h1,h2⟩:=u9 B.as_ (AM hi');rw[AM hi]at h1;cases h1;exact BOk.sm h h2
 ·-- what is told of a part
  obtain⟨k',rfl⟩:∃m,k'=m+2:=⟨k'-2,⋯⟩;refine V6 rfl [AA d.d,AA (.int u),AA (.int ((as.map D.ref).length:Nat)),AA (.ref b)] rfl ?_;have q0:=q' st' j Kp.refl;∎;cases d
  case name m=>
   simp only[Pg.d];rfl';simp only[G7,msF]at q0
   by_cases h1:m<u
   ·rw[if_pos h1]at q0;rw[if_pos ⋯];∎;exact b9 q0
   ·rw[if_neg h1]at q0;rw[if_neg ⋯];∎;rw[AX];have a2:m<u+c.es.length:=(hd m u .self).cls (m:=c.es.length) (by rw[Ch];exact W.cl);have hi:m-u<c.es.length:=by lia
    rw[if_neg ⋯];∎;obtain⟨x,h3,h4⟩:=u9 B.as_ (AM hi);have hx:x∈as:=Cg h3;have F:=hf (m-u) x _ h3 (AM hi) ⟨m,u,hd m u .self,⋯⟩;obtain⟨as',cp',en',k'',F⟩:=F;refine⟨by rw[T.stnd];rfl,v9 T (by rw[j b ∎];exact B0) ?_⟩;have e1:((m:Int)-u)=((m-u:Nat):Int):=by lia
    rw[e1];refine⟨.ref x,by rw[o7,Aw,h3];rfl,?_⟩;rfl';refine bz4 T (by rw[j x (by simp[hx])];exact F) (b9 ?_);rw[O9,Aw,AM hi]at q0;exact q0
  all_goals
   simp only[Pg.d];rfl';∎;exact b9 q0
 ·have K1:Kp [] st st1:=λx o _ eo=>by
   by_cases z:x∈b::as
   ·rw[j x z];exact eo
   ·exact kp x o z eo
  have g1:=Go.kp0 h K1;have B1:BAt R st1 b c as tg cp en k:=⟨K1.at' B0 ∎,B.as_,B.tg_,B.en_⟩;have g2:=Go.fill g1.ok e B1;rfl';refine⟨b,"Bound",_,rfl,B1.at_,T6 T ∎,by simp[bdF],?_⟩;rw[bs4];obtain⟨p,es⟩:=c;have g2:Go [] R st1 R (b7 st1 b (bdO p as (Cl.mk p es).den.d cp en k)):=g2;show d8 _ _ _ _ (b7 st1 b (bdO p as (Cl.mk p es).den.d cp en k));generalize hs2:b7 st1 b (bdO p as (Cl.mk p es).den.d cp en k)=st2 at g2;have B2:st2 b=AA (bdO p as (Cl.mk p es).den.d cp en k):=by rw[<-hs2];exact b8
  ∎;refine⟨by rw[T.nbnd];rfl,av8 T (c:=.mk p es) ⋯ B2 hl W.pt W.cl W.hg λna xs st3 hna h3 hx1 hx2 hx3 K3=>?_⟩;rfl';refine⟨_,.inl h3,by rw[AX];lia,?_⟩;have g3:=g2.trans (Go.kp0 g2.ok K3);refine D0 (λl acc env' st'=>st'=st3/\∃(suf:List AI)(m:Nat)(x:Option D),(∀z∈suf,z∈xs)/\l=suf.map D.ref/\acc=(AY m AH).map D.bl/\env'=[x]) ?_ ?_ _ _ _ _ ⟨rfl,xs,0,AC,λ_ h=>h,rfl,rfl,rfl⟩
  ·rintro acc env' st' ⟨rfl,suf,m,x,e1,e2,rfl,rfl⟩;refine⟨.inl h3,λva hva=>?_⟩;refine⟨_,.inl b8,?_⟩;rw[a52 T];rfl';have B3:b7 st' va (.lst ((AY m AH).map D.bl)) b=AA (bdO p as (Cl.mk p es).den.d cp en k):=j6 (K3.at' B2 ∎) hva;refine⟨by rw[T.spks];rfl,bt3 T (c:=.mk p es) ⋯ B3 hl W λst5 K5=>?_⟩;rfl';have B5:=K5.at' B3 ∎;refine⟨b,"Bound",_,rfl,B5,T6 T ∎,by simp[bdF],?_⟩;rw[bu8];have K6:Kp [] st2 (b7 st5 b (bdO p as (Cl.mk p es).den.d cp en k)):=λx o _ eo=>by
    by_cases z:x=b
    ·subst z;rw[B2]at eo;cases eo;exact b8
    ·exact g8 (K5.at' (j6 (K3.at' eo ∎) hva) ∎) z
   have g6:=g2.trans (Go.kp0 g2.ok K6);exact t5 (q _ (g1.trans g6) ⟨as,cp,en,k,b8⟩)
  ·rintro d ds acc env' st' ih ⟨rfl,suf,m,x,e1,e2,rfl,rfl⟩;refine⟨.inl h3,?_⟩;cases suf with
   |nil=>cases e2
   |cons z suf=>
    simp only[An,Ax]at e2;obtain⟨rfl,rfl⟩:=e2;obtain⟨i,hi,_⟩:=hx2 z (e1 z ∎);have hi':i<es.length:=by have:=(Ac.mp hi).1;have:as.length=es.length:=hl;lia
    obtain⟨w,h7,h8⟩:=u9 B.as_ (show(Cl.mk p es).es[i]?=AA es[i] from AM hi');rw[hi]at h7;cases h7;obtain⟨as',tg',cp',en',k',Z⟩:=g3.ok z _ h8;rfl';refine fb T Z.at_ ∎ rfl ?_;exact ih _ _ _ ⟨rfl,suf,m+1,_,λc h=>e1 c (by simp[h]),rfl,by rw[IF,Al];rfl,rfl⟩
end
inductive Ws:Cl->Prop
 |mk {c:Cl}:Wk c->(∀e∈c.es,Ws e)->Ws c
def Ws.wk(h:Ws c):Wk c:=by cases h;assumption
def Ws.sub(h:Ws c):∀e∈c.es,Ws e:=by cases h;assumption
mutual
noncomputable def Cl.wt:Cl->Nat
 |.mk _ es=>2+64*Cl.wts es
noncomputable def Cl.wts:List Cl->Nat
 |[]=>0
 |c::r=>c.wt+Cl.wts r
end
mutual
noncomputable def Cl.dep:Cl->Nat
 |.mk _ es=>1+Cl.deps es
noncomputable def Cl.deps:List Cl->Nat
 |[]=>0
 |c::r=>max c.dep (Cl.deps r)
end
theorem P6:∀{es:List Cl}{e:Cl},e∈es->e.dep<=Cl.deps es
 |c::r,e,h=>by
  unfold Cl.deps
  rcases Ae.mp h with rfl|h
  ·lia
  ·have:=P6 h;lia
theorem a02:∀{es:List Cl}{e:Cl},e∈es->e.wt<=Cl.wts es
 |c::r,e,h=>by
  unfold Cl.wts
  rcases Ae.mp h with rfl|h
  ·lia
  ·have:=a02 h;lia
def bu3{Z:Sg}{a:E}{K:Bool->Sto->Prop}:A3 Z (.isN a) env st K=wpE Z (.isN a) env st λd st'=>∃b,d=.bl b/\K b st':=L0 rfl
def W8{α}{xs}{x:α}:atI (xs++[x]) (-1)=AA x:=by
 unfold atI ixN;rw[if_neg ∅,if_pos (by simp;lia)];have:(-1+((xs.length:Int)+1)).toNat=xs.length:=by lia
 simp[this]
@[reducible]noncomputable def ptB:Ss:=match O3.body with|.cons _ (.cons (.while _ b) _)=>b|_=>.nil
section
variable (T:PBd P G) {b0 ah:AI} {F:DEnds} {V:c9->Sto->Prop}
@[reducible]noncomputable def ptW(P:f6)(G:Gs)(n:Nat)(F:DEnds):Nat->c9->Sto->Prop:=k6 (wpT (Zg P G n) (.cmp .Gt (.len (.v 1)) (.int 0))) (d8 (Zg P G n) ptB) F
include T
def ax7(hn:12<=n)(h:BOk R st)(e:R b=AA c)(W:Wk c)(ha:R ah=AC){d7:List D}(hl:st ah=AA (.lst (d7++[.ref b])))(hr:d7.length<1000000){x2 x3:Option D}{k:Nat}(B:BAt R st b c as tg cp en k)
  (w:∀(ys:List AI)(st':Sto)(x3:Option D),ys≠[]->Go [ah] R st R st'->st' ah=AA (.lst (d7++[.ref b]++ys.map D.ref))->ys.length<64->(∀y∈ys,∃(i:Nat)(e':Cl),as[i]?=AA y/\c.es[i]?=AA e'/\Fr c.p i/\¬Fl st y e')->(∀(i:Nat)(x:AI)(e':Cl),Fr c.p i->as[i]?=AA x->c.es[i]?=AA e'->x∈ys\/Fl st' x e')->V [AA (.ref b0),AA (.ref ah),AA (.ref b),x3] st')
  (f:∀(st':Sto)(x3:Option D),Go [ah] R st R st'->Fl st' b c->st' ah=AA (.lst d7)->V [AA (.ref b0),AA (.ref ah),AA (.ref b),x3] st'):wpT (Zg P G n) (.cmp .Gt (.len (.v 1)) (.int 0)) [AA (.ref b0),AA (.ref ah),x2,x3] st λk st1=>if k=AB then d8 (Zg P G n) ptB {F with nx:=V,ct:=V,bk:=F.nx} [AA (.ref b0),AA (.ref ah),x2,x3] st1 else F.nx [AA (.ref b0),AA (.ref ah),x2,x3] st1:=by
 have hlen:=A8 B.as_;unfold wpT;rfl';rw[o0 (.inl hl)];rfl';rw[if_pos (by simp only[AU,Ak];lia)];unfold ptB O3;simp only;∎;rw[t3 (.inl hl)];refine⟨_,W8,?_⟩;∎;refine⟨by rw[T.nbnd];rfl,av8 T (c:=c) ⋯ B.at_ hlen W.pt W.cl W.hg λna xs st1 hna h1 hx1 hx2 hx3 K1=>?_⟩;have g1:=Go.kp0 h K1;have hl1:=K1.at' hl ∎;rfl';refine⟨_,.inl h1,by rw[AX];lia,?_⟩;refine D0 (λl acc env' st'=>st'=st1/\∃(pre suf ys:List AI)(x:Option D),xs=pre++suf/\l=suf.map D.ref/\acc=ys.map D.ref/\ys.length<=pre.length/\(∀y∈ys,∃(i:Nat)(e':Cl),as[i]?=AA y/\c.es[i]?=AA e'/\Fr c.p i/\¬Fl st y e')/\(∀y∈pre,∀e',R y=AA e'->y∈ys\/Fl st1 y e')/\env'=[x]) ?_ ?_ _ _ _ _ ⟨rfl,[],xs,[],AC,rfl,rfl,rfl,AW _,∎,∎,rfl⟩
 ·rintro acc env' st' ⟨rfl,pre,suf,ys,x,e1,e2,rfl,e3,e4,e5,rfl⟩;refine⟨.inl h1,λwa hwa=>?_⟩;have hs:suf=[]:=by cases suf with|nil=>rfl|cons _ _=>cases e2
  subst hs;rw[Be]at e1;subst e1;have K2:Kp [] st (b7 st' wa (.lst (ys.map D.ref))):=K1.new hwa;have g2:=Go.kp0 h K2;have hl2:b7 st' wa (.lst (ys.map D.ref)) ah=AA (.lst (d7++[.ref b])):=j6 hl1 hwa;have hw:ah≠wa:=k9 hl1 hwa;have fl:∀(i:Nat)x e',Fr c.p i->as[i]?=AA x->c.es[i]?=AA e'->x∈ys\/Fl (b7 st' wa (.lst (ys.map D.ref))) x e':=λi x e' hi hx he=>by
   obtain⟨z,z1,z2⟩:=u9 B.as_ he;rw[hx]at z1;cases z1;refine(e5 x (hx3 i x hi hx) e' z2).imp_right λ⟨as',cp',en',k',f⟩=>⟨as',cp',en',k',j6 f hwa⟩
  ∎;rw[AX]
  by_cases h0:ys=[]
  ·subst h0;rw[if_neg ∎];∎;rw[N4 hl2];refine⟨by rw[T.fill];rfl,?_⟩;have K3:Kp [ah] (b7 st' wa (.lst [])) (b7 (b7 st' wa (.lst [])) ah (.lst d7)):=Kp.refl.put ∎;have g3:=(g2.more (L':=[ah]) ∎).trans (Go.kpL g2.ok K3 (by simpa using ha) (by simp;rw[b8];exact nofun));obtain⟨as3,tg3,cp3,en3,k3,B3⟩:=g3.ok b c e;have eas:as3=as:=by
    have z:b7 (b7 st' wa (.lst [])) ah (.lst d7) b=AA (bdO c.p as tg cp en k):=g8 (K2.at' B.at_ ∎) (S9 e ha);exact(L7 (B3.at_.symm.trans z)).1
   subst eas;refine bs5 T hn g3.ok e B3 W (λi x e' hx he hi=>?_) λst4 g4 f4=>?_
   ·rcases fl i x e' hi hx he with z|⟨as',cp',en',k',z⟩
    ·cases z
    ·obtain⟨y,y1,y2⟩:=u9 B.as_ he;rw[hx]at y1;cases y1;exact⟨as',cp',en',k',g8 z (S9 y2 ha)⟩
   ·exact f st4 _ (g3.trans (g4.more ∎)) f4 (g4.kp ah _ ha ∎ b8)
  ·have hpos:0<ys.length:=FP.mpr h0;rw[if_pos ⋯];∎;rw[u1 (.inl hl2)];refine⟨trivial,d7++[.ref b],ys.map D.ref,hl2,b8,u8 (by simp only[AU,Ak,AX];lia),?_⟩;have K3:Kp [ah] (b7 st' wa (.lst (ys.map D.ref))) (b7 (b7 st' wa (.lst (ys.map D.ref))) ah (.lst (d7++[.ref b]++ys.map D.ref))):=Kp.refl.put ∎;have g3:=(g2.more (L':=[ah]) ∎).trans (Go.kpL g2.ok K3 (by simpa using ha) (by simp;rw[b8];exact nofun));refine w ys _ _ h0 g3 b8 ⋯ e4 λi x e' hi hx he=>?_;refine(fl i x e' hi hx he).imp_right λ z40=>?_;obtain⟨as',cp',en',k',z⟩:=z40;obtain⟨y,y1,y2⟩:=u9 B.as_ he;rw[hx]at y1;cases y1;exact⟨as',cp',en',k',g8 z (S9 y2 ha)⟩
 ·rintro d ds acc env' st' ih ⟨rfl,pre,suf,ys,x,e1,e2,rfl,e3,e4,e5,rfl⟩;refine⟨.inl h1,?_⟩;cases suf with
  |nil=>cases e2
  |cons z suf=>
   simp only[An,Ax]at e2;obtain⟨rfl,rfl⟩:=e2;obtain⟨i,hi,hfr⟩:=hx2 z (by rw[e1];simp);have hi':i<c.es.length:=by have:=(Ac.mp hi).1;lia
   obtain⟨w',h7,h8⟩:=u9 B.as_ (AM hi');rw[hi]at h7;cases h7;obtain⟨as',tg',cp',en',k',Z⟩:=g1.ok z _ h8;rfl';rw[bu3];rfl';refine fb T Z.at_ ∎ rfl ?_
   by_cases ht:tg'=.non
   ·refine .inl ⟨ht,?_⟩;rfl';refine ih _ _ _ ⟨rfl,pre++[z],suf,ys++[z],_,by rw[e1];simp,rfl,∎,by simp only[AU,Ak];lia,λy hy=>?_,λy hy e' he=>?_,rfl⟩
    ·rcases BR.mp hy with hy|hy
     ·exact e4 y hy
     ·rw[BQ]at hy;subst hy;refine⟨i,_,hi,AM hi',hfr,λ z41=>?_⟩;obtain⟨a1,c1,n1,k1,F1⟩:=z41;have F2:=K1.at' F1 ∎;rw[Z.at_,ht]at F2;exact ag4 (L7 F2).2.symm
    ·rcases BR.mp hy with hy|hy
     ·exact(e5 y hy e' he).imp_left λz=>CI _ z
     ·exact .inl (BF _ hy)
   ·refine .inr ⟨ht,?_⟩;rfl';refine ih _ _ _ ⟨rfl,pre++[z],suf,ys,_,by rw[e1];simp,rfl,rfl,by rw[AU];lia,e4,λy hy e' he=>?_,rfl⟩
    rcases BR.mp hy with hy|hy
    ·exact e5 y hy e' he
    ·rw[BQ]at hy;subst hy;rw[h8]at he;cases he;have:=Z.tg_.resolve_left ht;subst this;exact .inr ⟨as',cp',en',k',Z.at_⟩
def b90(hn:12<=n)(ha:R ah=AC)(hb0:True):∀{c:Cl},Ws c->∀(k:Nat)(b:AI)(d7:List D)(st:Sto)(x2 x3:Option D),BOk R st->R b=AA c->st ah=AA (.lst (d7++[.ref b]))->d7.length+100*c.dep<1000000 ->
  (∀K,k<=K->∀st' x2 x3,Go [ah] R st R st'->Fl st' b c->st' ah=AA (.lst d7)->ptW P G n F K [AA (.ref b0),AA (.ref ah),x2,x3] st')->∀K,k+c.wt<=K->ptW P G n F K [AA (.ref b0),AA (.ref ah),x2,x3] st:=by
 intro c hW
 induction hW with
 |@mk c W _ ih=>
 intro k b d7 st x2 x3 h e hl hr q K hK;obtain⟨p,es⟩:=c;unfold Cl.wt at hK;obtain⟨K,rfl⟩:∃m,K=m+1:=⟨K-1,⋯⟩;obtain⟨as,tg,cp,en,j,B⟩:=h b _ e;refine ax7 T hn h e W ha hl ⋯ B (λys st1 x3 h0 g1 hl1 hy1 hy2 hy3=>?_) (λst1 x3 g1 f1 hl1=>q K ⋯ st1 _ _ g1 f1 hl1);have main:∀(ys:List AI)(s:Sto)(x2 x3:Option D),ys.length<64->(∀y∈ys,∃(i:Nat)(e':Cl),as[i]?=AA y/\es[i]?=AA e')->Go [ah] R st R s->s ah=AA (.lst (d7++[.ref b]++ys.map D.ref))->(∀(i:Nat)(x:AI)(e':Cl),Fr p i->as[i]?=AA x->es[i]?=AA e'->x∈ys\/Fl s x e')->∀K,k+1+ys.length*Cl.wts es<=K->ptW P G n F K [AA (.ref b0),AA (.ref ah),x2,x3] s:=by
  intro ys
  induction hys:ys.length generalizing ys with
  |zero=>
   intro s x2 x3 _ _ g hs hfl K hK;have:ys=[]:=CG.mp hys;subst this;rw[Dx,Be]at hs;obtain⟨K,rfl⟩:∃m,K=m+1:=⟨K-1,⋯⟩;obtain⟨as2,tg2,cp2,en2,j2,B2⟩:=g.ok b _ e;have eas:as2=as:=by
    obtain⟨_,_,_,z⟩:=g.ar b _ as _ _ _ _ e B.at_;exact(L7 (B2.at_.symm.trans z)).1
   subst eas;refine ax7 T hn g.ok e W ha hs ⋯ B2 (λys st3 x3 h0 g3 hl3 hy1 hy2 hy3=>?_) (λst3 x3 g3 f3 hl3=>q K ⋯ st3 _ _ (g.trans g3) f3 hl3);exfalso;obtain⟨y,hy⟩:=List.exists_mem_of_ne_nil ys h0;obtain⟨i,e',z1,z2,z3,z4⟩:=hy2 y hy
   rcases hfl i y e' z3 z1 z2 with z|z
   ·cases z
   ·exact z4 z
  |succ m ihm=>
   intro s x2 x3 hlt hys2 g hs hfl K hK;obtain⟨ys',y,rfl⟩:∃ys' y,ys=ys'++[y]:=by
    rcases E5 ys with rfl|⟨l,z,rfl⟩
    ·cases hys
    ·exact⟨l,z,rfl⟩
   obtain⟨i,e',z1,z2⟩:=hys2 y ∎;have hmem:=Cg z2;obtain⟨y',y1,y2⟩:=u9 B.as_ (show(Cl.mk p es).es[i]?=AA e' from z2);rw[z1]at y1;cases y1;have hl':ys'.length=m:=by rw[AU,Ak]at hys;lia
   rw[Al,<-Bz]at hs;have wte:=a02 hmem;rw[Hm]at hK;have hsz:=P6 hmem;unfold Cl.dep at hr;refine ih e' hmem (k+1+m*Cl.wts es) y _ s x2 x3 g.ok y2 hs (by simp only[AU,AX,Ak];lia) (λK2 hK2 s2 x2 x3 g2 f2 hs2=>?_) K ⋯;refine ihm ys' hl' s2 x2 x3 ⋯ (λw hw=>hys2 w (by simp[hw])) (g.trans g2) hs2 (λi2 w e2 a1 a2 a3=>?_) K2 hK2
   rcases hfl i2 w e2 a1 a2 a3 with hw|hw
   ·rcases BR.mp hw with hw|hw
    ·exact .inl hw
    ·rw[BQ]at hw;subst hw;obtain⟨w',w1,w2⟩:=u9 B.as_ (show(Cl.mk p es).es[i2]?=AA e2 from a3);rw[a2]at w1;cases w1;rw[y2]at w2;cases w2;exact .inr f2
   ·obtain⟨w',w1,w2⟩:=u9 B.as_ (show(Cl.mk p es).es[i2]?=AA e2 from a3);rw[a2]at w1;cases w1;exact .inr (g2.fl w e2 w2 hw)
 refine main ys st1 _ _ hy1 (λy hy=>by obtain⟨i,e',z1,z2,_⟩:=hy2 y hy;exact⟨i,e',z1,z2⟩) g1 hl1 hy3 K ?_;have:ys.length*Cl.wts es<=63*Cl.wts es:=Dm _ ⋯;lia
def az2(hn:14<=n)(h:BOk R st)(e:R b=AA c)(W:Ws c)(hd:100*c.dep<1000000)(q:∀st',Go [] R st R st'->Q c.den.d st'):sem P G n "put_together" [.ref b] st Q:=by
 obtain⟨n,rfl⟩:∃m,n=m+1:=⟨n-1,⋯⟩;refine f7 T.ptog rfl [AA (.ref b),AC,AC,AC] rfl ?_;unfold O3;∎;intro ah hah;have hR:=BOk.nn h hah;have K0:Kp [] st (b7 st ah (.lst [.ref b])):=Kp.refl.new hah;have g0:=Go.kp0 h K0;refine u3 ⟨c.wt+1,?_⟩;refine b90 T ⋯ hR trivial W 1 b [] _ AC AC g0.ok e b8 (by simpa using hd) (λK hK st1 x2 x3 g1 f1 hl1=>?_) _ ⋯;obtain⟨K,rfl⟩:∃m,K=m+1:=⟨K-1,⋯⟩;unfold ptW k6 wpT;rfl';rw[o0 (.inl hl1)];rfl';rw[if_neg ∎];∎;obtain⟨as,cp,en,k,F1⟩:=f1;refine fb T F1 ∎ rfl (b9 (q st1 ?_));have g:=(g0.more (L':=[ah]) ∎).trans g1;exact⟨g.sub,g.new,λx o h1 _ e1=>g.kp x o h1 (by simp;exact k9 e1 hah) e1,g.al,g.fl,g.ar,g.ok⟩
end
def Ws.sc(h:Ws c):Sc c:=by
 induction h with
 |@mk c W _ ih=>obtain⟨p,es⟩:=c;exact .mk W.cl ih
def V0{p:Pg}{a:Cl}{es:List Cl}(W:Wk (.mk p (a::es)))(ha:Ws a)(h:∀e∈es,Ws e):Ws (.mk p (a::es)):=.mk W λe he=>by
 rcases Ae.mp he with rfl|he
 ·exact ha
 ·exact h e he
def l5{p:Pg}{es:List Cl}:(Cl.mk p es).dep=1+Cl.deps es:=by unfold Cl.dep;rfl
def C7{a:Cl}{es:List Cl}:Cl.deps (a::es)=max a.dep (Cl.deps es):=by conv=>lhs;unfold Cl.deps
def cj8{p:Pg}{es:List Cl}(h:Ws (.mk p es))(hF:p.isF=AB):Ws (.mk p.f1 es):=by
 obtain⟨W1,W2,W3⟩:=h.wk;refine .mk ⟨?_,a45 hF W2,?_⟩ h.sub
 ·cases p<;>first|(cases hF;done)|(simp only[Cl.p,Pg.parts,Pg.f1]at W1 ⊢;lia)
 ·cases p<;>first|(cases hF;done)|(simp only[Cl.p,Cl.es,Pg.hgt,Pg.f1]at W3 ⊢;lia)
def b41{t u:Pg}{es:List Cl}(h:Ws (.mk (.lets t u) es)):Ws (.mk u (.mk t es::es))/\(Cl.mk u (.mk t es::es)).dep<=(Cl.mk (.lets t u) es).dep+1:=by
 obtain⟨W1,W2,W3⟩:=h.wk;simp only[Cl.p,Cl.es,Pg.parts,Pg.hgt]at W1 W3;refine⟨V0 ⟨by show u.parts<=_;lia,W2.2,by show es.length+1+u.hgt<=_;lia⟩ (.mk ⟨by show t.parts<=_;lia,W2.1,by show es.length+t.hgt<=_;lia⟩ h.sub) h.sub,?_⟩;simp only[l5,C7];lia
def co2{f:Cl}(hf:Ws f)(he:Ws e)(h:f.bh e=AA c):Ws c/\c.dep<=max f.dep e.dep+1:=by
 obtain⟨p,es⟩:=f;obtain⟨v,fs⟩:=e;obtain⟨W1,W2,W3⟩:=hf.wk;obtain⟨V1,V2,V3⟩:=he.wk;cases p<;>first|(cases h;done)|skip
 all_goals (cases v<;>first|(cases h;done)|skip)
 all_goals
  cases h;simp only[Cl.p,Cl.es,Pg.parts,Pg.hgt]at W1 W3 V1 V3
 ·exact⟨.mk ⟨by simp only[Cl.p];lia,V2.1,by simp only[Cl.p,Cl.es,AS];lia⟩ he.sub,by simp only[l5];lia⟩
 ·exact⟨.mk ⟨by simp only[Cl.p];lia,V2.2,by simp only[Cl.p,Cl.es,AS];lia⟩ he.sub,by simp only[l5];lia⟩
 ·exact⟨V0 ⟨by simp only[Cl.p];lia,W2.2.1,by simp only[Cl.p,Cl.es,AS];lia⟩ (.mk ⟨by simp only[Cl.p];lia,V2,by simp only[Cl.p,Cl.es,AS];lia⟩ he.sub) hf.sub,by simp only[l5,C7];lia⟩
 ·exact⟨V0 ⟨by simp only[Cl.p];lia,W2.2.2,by simp only[Cl.p,Cl.es,AS];lia⟩ (.mk ⟨by simp only[Cl.p];lia,V2,by simp only[Cl.p,Cl.es,AS];lia⟩ he.sub) hf.sub,by simp only[l5,C7];lia⟩
 ·exact⟨V0 ⟨by simp only[Cl.p];lia,V2,by simp only[Cl.p,Cl.es,AS];lia⟩ (.mk ⟨by simp only[Cl.p];lia,W2.2,by simp only[Cl.p,Cl.es,AS];lia⟩ hf.sub) he.sub,by simp only[l5,C7];lia⟩
structure At(c:Cl)(Fs:List Cl)(g:Nat):Prop where
 ws:Ws c
 dp:c.dep<=g+1
 fs:∀f∈Fs,Ws f/\f.p.isF=AB/\f.dep<=g+1
inductive Rz(m:Nat):Cl->List Cl->Nat->Cl->List Cl->Nat->Nat->Prop
 |stop {c:Cl} {Fs:List Cl} {g:Nat}:At c Fs g->(∀i,c.p≠.name i)->c.p.isF=AH->(m<=g\/(c.p.isV=AB/\Fs=[]))->Rz m c Fs g c Fs g 0
 |name {i es c Fs g c' Fs' g' N}:At (.mk (.name i) es) Fs g->es[i]?=AA c->Rz m c Fs g c' Fs' g' N->Rz m (.mk (.name i) es) Fs g c' Fs' g' (N+1)
 |form {c Fs g c' Fs' g' N}:At c Fs g->Fs.length<1000->c.p.isF=AB->Rz m (.mk c.p.f1 c.es) (Fs++[c]) g c' Fs' g' N->Rz m c Fs g c' Fs' g' (N+1)
 |lets {t u es Fs g c' Fs' g' N}:At (.mk (.lets t u) es) Fs g->g<m->Rz m (.mk u (.mk t es::es)) Fs (g+1) c' Fs' g' N->Rz m (.mk (.lets t u) es) Fs g c' Fs' g' (N+1)
 |step {c Fs f g c1 c' Fs' g' N}:At c (Fs++[f]) g->c.p.isV=AB->g<m->f.bh c=AA c1->Rz m c1 Fs (g+1) c' Fs' g' N->Rz m c (Fs++[f]) g c' Fs' g' (N+1)
theorem aq2:∀{fs:List Cl}{x:Pg},(∀f∈fs,f.den.isF=AB)->fs.length+1<=(k4 fs x).hgt
 |[],x,_=>by show 0+1<=x.hgt;exact ah9 x
 |f::fs,x,h=>by
  have:=aq2 (fs:=fs) (x:=x) λg hg=>h g (by simp[hg]);have hf:=h f ∎;show fs.length+1+1<=(f.den.wf (k4 fs x)).hgt;cases hd:f.den<;>rw[hd]at hf<;>first|(cases hf;done)|(simp only[Pg.wf,Pg.hgt];lia)
def At.F(A:At c Fs g):∀f∈Fs,f.den.isF=AB:=λf hf=>by
 obtain⟨p,es⟩:=f;exact(Y6 (A.fs _ hf).2.1).1
def ci1(m:Nat)(s:Nat):∀(j:Nat)(c:Cl)(Fs:List Cl)(g:Nat)(v:Pg)(k:Kd),LJ c<=j->At c Fs g->Kn [] (k4 Fs c.den) k->nxs s (k4 Fs c.den)=AA v->v.nx=AC->(∀j q,nxs j (k4 Fs c.den)=AA q->q.hgt<=1000) ->
  g<=m->∃c' Fs' N,Rz m c Fs g c' Fs' (min m (g+s)) N/\At c' Fs' (min m (g+s))/\nxs (min m (g+s)-g) (k4 Fs c.den)=AA (k4 Fs' c'.den):=by
 induction s using FB with
 |_ s ihs=>
 intro j
 induction j with
 |zero=>intro c Fs g v k hj;obtain⟨p,es⟩:=c;simp only[Cl.mk.sizeOf_spec]at hj;lia
 |succ j ihj=>
 intro c Fs g v k hj A hk hx hv hH hg;obtain⟨p,es⟩:=c;simp only[Cl.mk.sizeOf_spec]at hj;have sc:=A.ws.sc;obtain⟨s1,s2⟩:=sc.in;have dp:=A.dp
 rcases p.sort with⟨i,rfl⟩|⟨t,u,rfl⟩|hF|hV
 ·have hi:i<es.length:=s1;have e:=AM hi;have hmem:=ED hi;have:=Hw hmem;have hd:=P6 hmem;rw[as8 e]at hk hx hH ⊢;rw[l5]at dp;obtain⟨c',Fs',N,r,a,z⟩:=ihj es[i] Fs g v k ⋯ ⟨A.ws.sub _ hmem,⋯,A.fs⟩ hk hx hv hH hg;exact⟨c',Fs',N+1,.name A e r,a,z⟩
 ·by_cases hm:m<=g
  ·have:min m (g+s)=g:=by lia
   rw[this];exact⟨_,_,0,.stop A nofun rfl (.inl hm),A,by rw[Hv];rfl⟩
  ·obtain⟨w1,w2⟩:=b41 A.ws;have z:(u.mp (msF (Cl.dens es)) 1).sb (Cl.mk t es).den=(Cl.mk u (.mk t es::es)).den:=Q3 (.mk s1.1 s2) s2;have e1:(Cl.mk (.lets t u) es).den.nx=AA (Cl.mk u (.mk t es::es)).den:=by rw[<-z];rfl
   have e2:=af9 A.F e1;cases s with
   |zero=>cases hx;rw[e2]at hv;cases hv
   |succ s=>
    have hx:(k4 Fs (Cl.mk (.lets t u) es).den).nx.bind (nxs s)=AA v:=hx;rw[e2]at hx;obtain⟨c',Fs',N,r,a,y⟩:=ihs s (Cy _) _ (.mk u (.mk t es::es)) Fs (g+1) v k (AW _) ⟨w1,⋯,λf hf=>⟨(A.fs f hf).1,(A.fs f hf).2.1,by have:=(A.fs f hf).2.2;lia⟩⟩ (N6 hk e2) hx hv (λj q hj=>hH (j+1) q (by show Ji _ _=_;rw[e2];exact hj)) ⋯;rw[show g+1+s=g+(s+1) by lia]at r a y;refine⟨c',Fs',N+1,.lets A ⋯ r,a,?_⟩;rw[show min m (g+(s+1))-g=(min m (g+(s+1))-(g+1))+1 by lia];show(k4 Fs (Cl.mk (.lets t u) es).den).nx.bind _=_;rw[e2];exact y
 ·have w:=az5 (es:=es) hF;have e:k4 (Fs++[.mk p es]) (Cl.mk p.f1 es).den=k4 Fs (Cl.mk p es).den:=by rw[U1,w]
  have:=a73 hF;have hlen:=aq2 (x:=(Cl.mk p es).den) A.F;have h1000:=hH 0 _ rfl;rw[<-e]at hk hx hH ⊢;obtain⟨c',Fs',N,r,a,z⟩:=ihj (.mk p.f1 es) (Fs++[.mk p es]) g v k (by simp only[Cl.mk.sizeOf_spec];lia) ⟨cj8 A.ws hF,by rw[l5]at dp ⊢;lia,λf hf=>by
   rcases BR.mp hf with hf|hf
   ·exact A.fs f hf
   ·rw[BQ]at hf;subst hf;exact⟨A.ws,hF,dp⟩⟩ hk hx hv hH hg
  exact⟨c',Fs',N+1,.form A ⋯ hF r,a,z⟩
 ·have nn:∀i,(Cl.mk p es).p≠.name i:=λi z=>by have z:p=.name i:=z;subst z;cases hV
  have nf:(Cl.mk p es).p.isF=AH:=by show p.isF=AH;cases p<;>first|rfl|cases hV
  rcases E5 Fs with rfl|⟨Fs,f,rfl⟩
  ·have hz:(k4 [] (Cl.mk p es).den).nx=AC:=Z0 (aj1 hV);cases s with
   |succ s=>obtain⟨r,e1,e2⟩:=Bc.mp hx;rw[hz]at e1;cases e1
   |zero=>
    have:min m (g+0)=g:=by lia
    rw[this];exact⟨_,_,0,.stop A nn nf (.inr ⟨hV,rfl⟩),A,by rw[Hv];rfl⟩
  ·by_cases hm:m<=g
   ·have:min m (g+s)=g:=by lia
    rw[this];exact⟨_,_,0,.stop A nn nf (.inl hm),A,by rw[Hv];rfl⟩
   ·have Af:=A.fs f ∎;have fF:f.den.isF=AB:=A.F f ∎;have AF:∀f∈Fs,f.den.isF=AB:=λg hg=>A.F g (by simp[hg]);rw[U1]at hk hx hH ⊢;obtain⟨l,hl⟩:=ax9 AF hk;obtain⟨q,hq⟩:=ay6 (A4 fF).1 hl (by rw[(A4 fF).2.1];exact aj1 hV);obtain⟨c1,b1,b2,b3⟩:=a65 Af.1.sc sc Af.2.1 hq hV;obtain⟨w1,w2⟩:=co2 Af.1 A.ws b1;have e1:(f.den.wf (Cl.mk p es).den).nx=AA c1.den:=by rw[E2 (A4 fF).1,hq,b3]
    have e2:=af9 AF e1;cases s with
    |zero=>cases hx;rw[e2]at hv;cases hv
    |succ s=>
     have hx:(k4 Fs (f.den.wf (Cl.mk p es).den)).nx.bind (nxs s)=AA v:=hx;rw[e2]at hx;obtain⟨c',Fs',N,r,a,y⟩:=ihs s (Cy _) _ c1 Fs (g+1) v k (AW _) ⟨w1,by have:=Af.2.2;lia,λf hf=>by have z:=A.fs f (by simp[hf]);exact⟨z.1,z.2.1,⋯⟩⟩ (N6 hk e2) hx hv (λj q hj=>hH (j+1) q (by show Ji _ _=_;rw[e2];exact hj)) ⋯;rw[show g+1+s=g+(s+1) by lia]at r a y;refine⟨c',Fs',N+1,.step A hV ⋯ b1 r,a,?_⟩;rw[show min m (g+(s+1))-g=(min m (g+(s+1))-(g+1))+1 by lia];show(k4 Fs (f.den.wf (Cl.mk p es).den)).nx.bind _=_;rw[e2];exact y
@[reducible]noncomputable def rnF(h fa:AI)(g m:Nat):List (Str×D):=[("here",.ref h),("forms",.ref fa),("gone",.int g),("most",.int m)]
@[reducible]noncomputable def rnO(h fa:AI)(g m:Nat):Ob:=.ins "Runner" (rnF h fa g m)
structure RnS(R:Bm)(st:Sto)(ra fa h:AI)(fs:List AI)(c:Cl)(Fs:List Cl)(g m:Nat):Prop where
 ok:BOk R st
 ob:st ra=AA (rnO h fa g m)
 fm:st fa=AA (.lst (fs.map D.ref))
 hc:R h=AA c
 hf:fs.map R=Fs.map AA
 ra0:R ra=AC
 fa0:R fa=AC
section
variable {fs:List AI} 
def Go.no(G:Go L R st R1 st1){o:Ob}(h:R a=AC)(e:st a=AA o):R1 a=AC:=BJ λz=>by rw[G.new a z h]at e;cases e
def RnS.go(S:RnS R st ra fa h fs c Fs g m)(G:Go [] R st R1 st1):RnS R1 st1 ra fa h fs c Fs g m:=
 ⟨G.ok,G.kp ra _ S.ra0 ∎ S.ob,G.kp fa _ S.fa0 ∎ S.fm,G.sub _ _ S.hc,L8 G.sub S.hf,G.no S.ra0 S.ob,G.no S.fa0 S.fm⟩
def RnS.ne(S:RnS R st ra fa h fs c Fs g m):ra≠fa:=λz=>by have:=S.ob;rw[z,S.fm]at this;cases this
def ae4:g7 "here" (.ref h') (rnF h fa g m)=rnF h' fa g m:=by simp[g7,f8,rnF]
def bp2{g':Nat}:g7 "gone" (.int (g':Nat)) (rnF h fa g m)=rnF h fa g' m:=by simp[g7,f8,rnF]
def RnS.at(S:RnS R st ra fa h fs c Fs g m){g':Nat}(e:R h'=AA c'):RnS R (b7 st ra (rnO h' fa g' m)) ra fa h' fs c' Fs g' m/\Go [ra,fa] R st R (b7 st ra (rnO h' fa g' m)):=by
 have K:Kp [ra,fa] st (b7 st ra (rnO h' fa g' m)):=Kp.refl.put ∎;have G:=Go.kpL S.ok K (by simp;exact⟨S.ra0,S.fa0⟩) (by simp;rw[b8,i9 S.ne.symm,S.fm];exact⟨nofun,nofun⟩);exact⟨⟨G.ok,b8,g8 S.fm S.ne.symm,e,S.hf,S.ra0,S.fa0⟩,G⟩
def RnS.forms(S:RnS R st ra fa h fs c Fs g m){fs':List AI}{Fs':List Cl}(e:fs'.map R=Fs'.map AA):RnS R (b7 st fa (.lst (fs'.map D.ref))) ra fa h fs' c Fs' g m/\Go [ra,fa] R st R (b7 st fa (.lst (fs'.map D.ref))):=by
 have K:Kp [ra,fa] st (b7 st fa (.lst (fs'.map D.ref))):=Kp.refl.put ∎;have G:=Go.kpL S.ok K (by simp;exact⟨S.ra0,S.fa0⟩) (by simp;rw[b8,i9 S.ne,S.ob];exact⟨nofun,nofun⟩);exact⟨⟨G.ok,g8 S.ob S.ne,b8,S.hc,e,S.ra0,S.fa0⟩,G⟩
end
structure PRn(P:f6)(G:Gs):Prop extends PBd P G where
 rini:P (c6 "Runner" "__init__")=AA aa0
 turn:P (c6 "Runner" "turn")=AA O4
 step:P (c6 "Runner" "step")=AA O5
 run:P "run"=AA U3
 rcls:G.cls "Runner"=([("here":Str),("forms":Str),("gone":Str),("most":Str)]:List Str)
 wthn:G.cst "WITHIN"=AA (.ktup [.inr "give",.inr "first",.inr "second",.inr "case",.inr "never"])
section
variable (T:PRn P G) {fs:List AI} 
include T
def fr{f:Str}{d:D}(hb:st ra=AA (rnO h fa g m))(hf:f∈([("here":Str),("forms":Str),("gone":Str),("most":Str)]:List Str))(hl:(rnF h fa g m).lookup f=AA d)(q:Q1 d):
  ∃q c fs d,D.ref ra=.ref q/\st q=AA (.ins c fs)/\f∈G.cls c/\fs.lookup f=AA d/\Q1 d:=⟨ra,"Runner",_,d,rfl,hb,by rw[T.rcls];exact hf,hl,q⟩
def S6(q:Q1 (.ktup [.inr "give",.inr "first",.inr "second",.inr "case",.inr "never"])):∃d,G.cst "WITHIN"=AA d/\Q1 d:=⟨_,T.wthn,q⟩
def aq1{R':Bm}{fs':List AI}{Fs':List Cl}(S:RnS R' st' ra fa h fs' c Fs' g m)(e:R' h'=AA c')(q:∀st2,RnS R' st2 ra fa h' fs' c' Fs' (g+1) m->Go [ra,fa] R' st' R' st2->Q (.bl AB) st2):
  d8 (Zg P G n) (.cons (.iff (.isN (.v 1)) (.cons (.ret (.bl AH)) .nil) .nil) (.cons (.fldS (.v 0) "here" (.v 1)) (.cons (.fldS (.v 0) "gone" (.bin .Add (.fld (.v 0) "gone") (.int 1))) (.cons (.ret (.bl AB)) .nil)))) (d9 Q) [AA (.ref ra),AA (.ref h')] st':=by
 ∎;refine .inr ⟨nofun,?_⟩;rfl';∎;refine⟨ra,"Runner",_,rfl,S.ob,by rw[T.rcls];simp,by simp[rnF],?_⟩;rw[ae4];obtain⟨S1,G1⟩:=S.at (g':=g) e;∎;refine fr T S1.ob ∎ rfl ?_;rfl';refine⟨ra,"Runner",_,rfl,S1.ob,by rw[T.rcls];simp,by simp[rnF],?_⟩;have eg:((g:Nat):Int)+1=((g+1:Nat):Int):=by lia
 rw[eg,bp2];obtain⟨S2,G2⟩:=S1.at (g':=g+1) e;∎;exact b9 (q _ S2 (G1.trans G2))
def bp0{t u:Pg}{es:List Cl}(hn:4<=n)(hl:es.length<1000)(S:RnS R st ra fa h fs (.mk (.lets t u) es) Fs g m)(q:∀R' st' h',RnS R' st' ra fa h' fs (.mk u (.mk t es::es)) Fs (g+1) m->Go [ra,fa] R st R' st'->Q (.bl AB) st'):sem P G n (c6 "Runner" "step") [.ref ra] st Q:=by
 obtain⟨n,rfl⟩:∃k,n=k+4:=⟨n-4,⋯⟩;refine f7 T.step rfl [AA (.ref ra),AC] rfl ?_;unfold O5;∎;refine⟨by rw[T.blet];rfl,fr T S.ob ∎ rfl ?_⟩;refine V5 T.toPBd S.ok S.hc hl (λz=>absurd rfl (z t u)) λt' u' b' R' st' e1 e2 G=>?_;cases e1;∎;refine .inr ⟨nofun,?_⟩;rfl';exact aq1 T (S.go G) e2 λst2 S2 G2=>q R' st2 b' S2 ((G.more ∎).trans G2)
def bk1{f:Cl}(hn:4<=n)(hv:c.p.isV=AB)(hl:c.es.length<1000)(hl2:f.es.length<1000)(hb:f.bh c=AA c1)(S:RnS R st ra fa h fs c (Fs++[f]) g m)(q:∀R' st' h' fs',RnS R' st' ra fa h' fs' c1 Fs (g+1) m->Go [ra,fa] R st R' st'->Q (.bl AB) st'):sem P G n (c6 "Runner" "step") [.ref ra] st Q:=by
 obtain⟨n,rfl⟩:∃k,n=k+4:=⟨n-4,⋯⟩;have nl:∀t u,c.p≠.lets t u:=λt u z=>by rw[z]at hv;cases hv
 obtain⟨fs,fl,rfl⟩:∃fs' fl,fs=fs'++[fl]:=by
  rcases E5 fs with rfl|⟨l,z,rfl⟩
  ·have:=A8 S.hf;simp at this
  ·exact⟨l,z,rfl⟩
 have hf:=S.hf;rw[Al,Al]at hf;obtain⟨hf1,hf2⟩:=JP hf rfl;have hfl:R fl=AA f:=by simpa using hf2
 refine f7 T.step rfl [AA (.ref ra),AC] rfl ?_;unfold O5;∎;refine⟨by rw[T.blet];rfl,fr T S.ob ∎ rfl ?_⟩;refine V5 T.toPBd S.ok S.hc hl (λ_=>?_) λt' u' b' R' st' e1 e2 G=>absurd e1 (nl t' u');∎;refine .inl (fr T S.ob ∎ rfl ?_);rw[o0 (.inl S.fm)];rfl';rw[if_pos (by simp only[Al,AU,An,Dx,Ak];lia)];∎;refine⟨by rw[T.bform];rfl,fr T S.ob ∎ rfl ?_⟩;have fm:=S.fm;rw[Al]at fm;rw[t3 (.inl fm)];refine⟨_,W8,?_⟩;rfl';refine fr T S.ob ∎ rfl ?_;refine au0 T.toPBd S.ok hfl S.hc hb hl2 hl λb' R' st' e2 G=>?_;have S1:=S.go G;∎;refine .inr ⟨nofun,?_⟩;rfl';∎;refine fr T S1.ob ∎ rfl ?_;have fm1:=S1.fm;rw[Al]at fm1;rw[N4 fm1];obtain⟨S2,G2⟩:=S1.forms (L8 G.sub hf1);exact aq1 T S2 e2 λst2 S3 G3=>q R' st2 b' fs S3 ((G.more ∎).trans (G2.trans G3))
def bn0(hn:4<=n)(hv:c.p.isV=AB)(hl:c.es.length<1000)(S:RnS R st ra fa h fs c [] g m)(q:Q (.bl AH) st):sem P G n (c6 "Runner" "step") [.ref ra] st Q:=by
 obtain⟨n,rfl⟩:∃k,n=k+4:=⟨n-4,⋯⟩;have nl:∀t u,c.p≠.lets t u:=λt u z=>by rw[z]at hv;cases hv
 have hfs:fs=[]:=CG.mp (A8 S.hf);subst hfs;refine f7 T.step rfl [AA (.ref ra),AC] rfl ?_;unfold O5;∎;refine⟨by rw[T.blet];rfl,fr T S.ob ∎ rfl ?_⟩;refine V5 T.toPBd S.ok S.hc hl (λ_=>?_) λt' u' b' R' st' e1 e2 G=>absurd e1 (nl t' u');∎;refine .inl (fr T S.ob ∎ rfl ?_);rw[o0 (.inl S.fm)];rfl';rw[if_neg ∎];∎;refine .inl ?_;∎;exact b9 q
end
section
variable (T:PRn P G) {fs:List AI} 
include T
def ad1(hn:5<=n)(S:RnS R st ra fa h fs c Fs g m)(nn:∀i,c.p≠.name i)(nf:c.p.isF=AH)(q0:m<=g->Q (.bl AH) st)(q1:g<m->∀k,n<=k+1->sem P G k (c6 "Runner" "step") [.ref ra] st (d9 Q).rt):sem P G n (c6 "Runner" "turn") [.ref ra] st Q:=by
 obtain⟨n,rfl⟩:∃k,n=k+1:=⟨n-1,⋯⟩;obtain⟨as,tg,cp,en,k,B⟩:=S.ok h c S.hc;refine f7 T.turn rfl [AA (.ref ra),AC] rfl ?_;unfold O4;∎;refine fr T S.ob ∎ rfl ?_;∎;refine j7 T.toPBd B.at_ ?_;have fin:d8 (Zg P G n) (.cons (.ret (.and (.cmp .Lt (.fld (.v 0) "gone") (.fld (.v 0) "most")) (.meth (.v 0) "step" .nil))) .nil) ⟨d8 (Zg P G n) .nil ⟨d8 (Zg P G n) (.cons (.ret (.bl AB)) .nil) (d9 Q),(d9 Q).rt,(d9 Q).bk,(d9 Q).ct⟩,(d9 Q).rt,(d9 Q).bk,(d9 Q).ct⟩ [AA (.ref ra),AA (.ref h)] st:=by
  ∎;refine fr T S.ob ∎ rfl ?_;rfl';refine fr T S.ob ∎ rfl ?_;rfl'
  by_cases hg:m<=g
  ·rw[if_neg ⋯];exact b9 (q0 hg)
  ·rw[if_pos ⋯];refine⟨ra,"Runner",_,rfl,S.ob,rfl,by rw[T.step];rfl,?_⟩;exact q1 ⋯ n ⋯
 cases hp:c.p
 case name i=>exact absurd hp (nn i)
 all_goals
  rw[hp]at nf
  first|(cases nf;done)|skip
 all_goals
  simp only[Pg.d];rfl';∎;refine j7 T.toPBd B.at_ ?_;rw[hp];simp only[Pg.d];rfl';refine S6 T ?_;rw[R9];refine⟨g9 _,?_⟩;simp only[CW,EN,EH,f8,BZ,decide_true,decide_false,Bv,Bj,Bk,BS,if_true];rfl';exact fin
def bi6{es:List Cl}(hn:5<=n)(S:RnS R st ra fa h fs (.mk (.name i) es) Fs g m)(e:es[i]?=AA c1)(q:∀st' h',RnS R st' ra fa h' fs c1 Fs g m->Go [ra,fa] R st R st'->Q (.bl AB) st'):sem P G n (c6 "Runner" "turn") [.ref ra] st Q:=by
 obtain⟨n,rfl⟩:∃k,n=k+1:=⟨n-1,⋯⟩;obtain⟨as,tg,cp,en,k,B⟩:=S.ok h _ S.hc;obtain⟨a,a1,a2⟩:=u9 B.as_ e;have hl:=A8 B.as_;have hi:i<es.length:=(Ac.mp e).1;have B0:st h=AA (bdO (.name i) as tg cp en k):=B.at_;refine f7 T.turn rfl [AA (.ref ra),AC] rfl ?_;unfold O4;∎;refine fr T S.ob ∎ rfl ?_;∎;refine j7 T.toPBd B0 ?_;simp only[Pg.d];rfl';refine j7 T.toPBd B0 ?_;simp only[Pg.d];rfl';refine v9 T.toPBd B0 ?_;rfl';rw[if_pos (by rw[AX];have:as.length=es.length:=hl;lia)];∎;refine v9 T.toPBd B0 ?_;refine j7 T.toPBd B0 ?_;simp only[Pg.d];rfl';refine⟨.ref a,by rw[o7,Aw,a1];rfl,?_⟩;rfl';refine⟨ra,"Runner",_,rfl,S.ob,by rw[T.rcls];simp,by simp[rnF],?_⟩;rw[ae4];obtain⟨S1,G1⟩:=S.at (g':=g) a2;∎;exact b9 (q _ a S1 G1)
theorem av3{p:Pg}(h:p.isF=AB):∃r,p.kids=p.f1::r:=by cases p<;>first|(cases h;done)|exact⟨_,rfl⟩
def bh9(hn:5<=n)(S:RnS R st ra fa h fs c Fs g m)(hF:c.p.isF=AB)(hl:fs.length<1000000)(q:∀R' st' h' fs',RnS R' st' ra fa h' fs' (.mk c.p.f1 c.es) (Fs++[c]) g m->fs'.length=fs.length+1->Go [ra,fa] R st R' st'->Q (.bl AB) st'):sem P G n (c6 "Runner" "turn") [.ref ra] st Q:=by
 obtain⟨n,rfl⟩:∃k,n=k+5:=⟨n-5,⋯⟩;obtain⟨as,tg,cp,en,k,B⟩:=S.ok h _ S.hc;obtain⟨S1,G1⟩:=S.forms (fs':=fs++[h]) (Fs':=Fs++[c]) (by rw[Al,Al,S.hf,An,S.hc];rfl);refine f7 T.turn rfl [AA (.ref ra),AC] rfl ?_;unfold O4;∎;refine fr T S.ob ∎ rfl ?_;∎;refine j7 T.toPBd B.at_ ?_;have fin:d8 (Zg P G (n+4)) (.cons (.ex (.app (.fld (.v 0) "forms") (.v 1))) (.cons (.fldS (.v 0) "here" (.make "Bound" (.cons (.ix (.call "inner" (.cons (.fld (.v 1) "program") .nil)) (.int 0)) (.cons (.fld (.v 1) "around") .nil)))) .nil)) ⟨d8 (Zg P G (n+4)) .nil ⟨d8 (Zg P G (n+4)) (.cons (.ret (.bl AB)) .nil) (d9 Q),(d9 Q).rt,(d9 Q).bk,(d9 Q).ct⟩,(d9 Q).rt,(d9 Q).bk,(d9 Q).ct⟩ [AA (.ref ra),AA (.ref h)] st:=by
  ∎;refine fr T S.ob ∎ rfl ?_;rw[u1 (.inl S.fm),z5 S.fm];refine⟨trivial,B7 (by rw[AX];lia),?_⟩;have e1:fs.map D.ref++[.ref h]=(fs++[h]).map D.ref:=by simp
  rw[e1];obtain⟨as1,tg1,cp1,en1,k1,B1⟩:=S1.ok h _ S1.hc;refine u3 ?_;rw[Q6];refine Q8 T.toPBd (n:=n+2) (i:=1) S1.ok S1.hc rfl (px:=c.p.f1) (λK hK=>?_) λb' R' st' e' G2=>?_
  ·refine⟨by show(P _).isSome=AB;rw[T.inner];rfl,⟨_,rfl,j7 T.toPBd B1.at_ ?_⟩⟩;simp only[Q4];refine U4 (n:=n+3) T.toPIn c.p λa ha=>?_;obtain⟨r,er⟩:=av3 T hF;refine .inl ⟨_,c.p.f1.d,.inl b8,by rw[er];show atI _ ((0:Nat):Int)=_;rw[o7];rfl,hK _ (Kp.refl.new ha)⟩
  ·have S2:=S1.go G2;refine⟨_,rfl,ra,"Runner",_,rfl,S2.ob,by show _∈G.cls "Runner";rw[T.rcls];simp,by simp[rnF],?_⟩;rw[ae4];obtain⟨S3,G3⟩:=S2.at (g':=g) e';exact b9 (q R' _ b' _ S3 ∎ (G1.trans ((G2.more ∎).trans G3)))
 cases hp:c.p
 all_goals
  rw[hp]at hF
  first|(cases hF;done)|skip
 all_goals
  simp only[Pg.d];rfl';∎;refine j7 T.toPBd B.at_ ?_;rw[hp];simp only[Pg.d];rfl';refine S6 T ?_;rw[R9];refine⟨g9 _,?_⟩;simp only[CW,EN,EH,f8,BZ,decide_true,decide_false,Bv,Bj,Bk,BS,if_true];rfl';exact fin
end
def bz9{p:Pg}(h:p.isF=AB):p.withKids (x::p.kids.drop 1)=p.wf x/\(x::p.kids.drop 1).length=p.kids.length/\p.kids≠[]:=by
 cases p<;>first|(cases h;done)|exact⟨rfl,rfl,nofun⟩
def bu0{p:Pg}{es:List Cl}(h:Ws (.mk p es))(hF:p.isF=AB):Ws (.mk (p.wf .star) es):=by
 obtain⟨W1,W2,W3⟩:=h.wk;have a:=ah9 p.f1;have b:1<=p.f1.parts:=by cases p.f1<;>simp only[Pg.parts]<;>lia
 refine .mk ⟨?_,?_,?_⟩ h.sub
 ·cases p<;>first|(cases hF;done)|(simp only[Cl.p,Pg.parts,Pg.wf,Pg.f1]at W1 b ⊢;lia)
 ·cases p<;>first|(cases hF;done)|exact trivial|exact⟨trivial,W2.2⟩
 ·cases p<;>first|(cases hF;done)|(simp only[Cl.p,Cl.es,Pg.hgt,Pg.wf,Pg.f1]at W3 a ⊢;lia)
section
variable (T:PRn P G) {fs:List AI} 
include T
def aw9{p x:Pg}(hF:p.isF=AB)(q:∀st',Kp [] st st'->Q (p.wf x).d st'):sem P G (n+2) "with_first" [p.d,x.d] st Q:=by
 obtain⟨e1,e2,e3⟩:=bz9 (x:=x) hF;refine f7 T.wfst rfl [AA p.d,AA x.d] rfl ?_;unfold aa5;∎;refine⟨by rw[T.winner];rfl,λa1 h1=>?_⟩;refine⟨by rw[T.inner];rfl,U4 T.toPIn p λa2 h2=>?_⟩;rfl';rw[a96 (.inl b8)];intro a3 h3;have n12:a1≠a2:=k9 b8 h2;have n13:a1≠a3:=k9 (j6 (b8) h2) h3;have k1:(b7 (b7 (b7 st a1 (.lst [x.d])) a2 (.lst (p.kids.map Pg.d))) a3 (.lst (p5 (p.kids.map Pg.d) (AA 1) AC))) a1=AA (.lst [x.d]):=j6 (j6 b8 h2) h3;refine⟨[x.d],p5 (p.kids.map Pg.d) (AA 1) AC,k1,b8,u8 ?_,λa4 h4=>?_⟩
 ·have:=aw4 (ds:=p.kids.map Pg.d) (lo:=AA 1) (hi:=AC);have kl:p.kids.length<=3:=by cases p<;>simp[Pg.kids]
  rw[AX]at this;simp only[Ak];lia
 have ec:[x.d]++p5 (p.kids.map Pg.d) (AA 1) AC=(x::p.kids.drop 1).map Pg.d:=by
  have:(1:Int)=((1:Nat):Int):=rfl;rw[this,as6,An,<-Jg];rfl
 rw[ec];refine ar5 T.toPNm (p:=p) (l:=x::p.kids.drop 1) (.inl b8) e2 e3 ?_;rw[e1];exact b9 (q _ ((((Kp.refl.new h1).new h2).new h3).new h4))
@[reducible]noncomputable def rnW(P:f6)(G:Gs)(n:Nat)(F:DEnds):Nat->c9->Sto->Prop:=k6 (wpT (Zg P G n) (.meth (.v 2) "turn" .nil)) (d8 (Zg P G n) (.cons .pass .nil)) F
def by4{F:DEnds}{x0 x1 x3 x4 x5:Option D}(hn:6<=n):∀{c Fs g c' Fs' g' N},Rz m c Fs g c' Fs' g' N->∀(R:Bm)(st:Sto)(h:AI)(fs:List AI),RnS R st ra fa h fs c Fs g m ->
  (∀R' st' h' fs',RnS R' st' ra fa h' fs' c' Fs' g' m->Go [ra,fa] R st R' st'->F.nx [x0,x1,AA (.ref ra),x3,x4,x5] st')->rnW P G n F (N+1) [x0,x1,AA (.ref ra),x3,x4,x5] st:=by
 have go:∀{R:Bm}{st:Sto}{h:AI}{fs:List AI}{c:Cl}{Fs:List Cl}{g:Nat}{K:Nat},RnS R st ra fa h fs c Fs g m->sem P G n (c6 "Runner" "turn") [.ref ra] st (λd st'=>∃b,d=.bl b/\if b=AB then rnW P G n F K [x0,x1,AA (.ref ra),x3,x4,x5] st' else F.nx [x0,x1,AA (.ref ra),x3,x4,x5] st')->rnW P G n F (K+1) [x0,x1,AA (.ref ra),x3,x4,x5] st:=λS z=>
  ⟨_,rfl,ra,"Runner",_,rfl,S.ob,rfl,by show(P _).isSome=AB;rw[T.turn];rfl,z⟩
 intro c Fs g c' Fs' g' N h
 induction h with
 |@stop c Fs g A nn nf hs=>
  intro R st h fs S q;refine go S (ad1 T ⋯ S nn nf (λ_=>⟨AH,rfl,q R st h fs S (Go.refl S.ok)⟩) λhg k hk=>?_)
  rcases hs with hs|⟨hv,rfl⟩
  ·lia
  ·exact bn0 T ⋯ hv (by have:=A.ws.wk.hg;lia) S (b9 ⟨AH,rfl,q R st h fs S (Go.refl S.ok)⟩)
 |@name i es c Fs g c' Fs' g' N A e _ ih=>
  intro R st h fs S q;exact go S (bi6 T ⋯ S e λst' h' S' G=>⟨AB,rfl,ih R st' h' fs S' λR2 st2 h2 fs2 S2 G2=>q R2 st2 h2 fs2 S2 (G.trans G2)⟩)
 |@form c Fs g c' Fs' g' N A hl hF _ ih=>
  intro R st h fs S q;have hlen:=A8 S.hf;exact go S (bh9 T ⋯ S hF ⋯ λR' st' h' fs' S' _ G=>⟨AB,rfl,ih R' st' h' fs' S' λR2 st2 h2 fs2 S2 G2=>q R2 st2 h2 fs2 S2 (G.trans G2)⟩)
 |@lets t u es Fs g c' Fs' g' N A hg _ ih=>
  intro R st h fs S q;refine go S (ad1 T ⋯ S nofun rfl (λz=>⋯) λ_ k hk=>?_);refine bp0 T ⋯ (by have:=A.ws.wk.hg;simp only[Cl.es]at this;lia) S λR' st' h' S' G=>b9 ⟨AB,rfl,ih R' st' h' fs S' λR2 st2 h2 fs2 S2 G2=>q R2 st2 h2 fs2 S2 (G.trans G2)⟩
 |@step c Fs f g c1 c' Fs' g' N A hv hg hb _ ih=>
  intro R st h fs S q;have nn:∀i,c.p≠.name i:=λi z=>by rw[z]at hv;cases hv
  have nf:c.p.isF=AH:=by cases hp:c.p<;>rw[hp]at hv<;>first|rfl|cases hv
  refine go S (ad1 T ⋯ S nn nf (λz=>⋯) λ_ k hk=>?_);exact bk1 T ⋯ hv (by have:=A.ws.wk.hg;lia) (by have:=(A.fs f ∎).1.wk.hg;lia) hb S λR' st' h' fs' S' G=>b9 ⟨AB,rfl,ih R' st' h' fs' S' λR2 st2 h2 fs2 S2 G2=>q R2 st2 h2 fs2 S2 (G.trans G2)⟩
def bz5{b:AI}{p:Pg}(hn:3<=n)(h:BOk R st)(hb:st ra=AC)(q:∀R' st' h' fa,RnS R' st' ra fa h' [] (.mk p []) [] 0 m->st fa=AC->Go [ra,fa] R st R' st'->Q .non st'):sem P G n (c6 "Runner" "__init__") [.ref ra,p.d,.int (m:Nat)] (b7 st ra (.ins "Runner" [])) Q:=by
 obtain⟨n,rfl⟩:∃k,n=k+3:=⟨n-3,⋯⟩;have hR:=BOk.nn h hb;have K0:Kp [] st (b7 st ra (.ins "Runner" [])):=Kp.refl.new hb;have g0:=Go.kp0 h K0;refine f7 T.rini rfl [AA (.ref ra),AA p.d,AA (.int (m:Nat))] rfl ?_;unfold aa0;refine u3 ?_;rw[Q6];refine⟨T3 T.toPBd,⟨_,rfl,?_⟩⟩;intro b1 h1;refine P1 T.toPBd (as:=[]) (es:=[]) g0.ok rfl h1 λR1 st1 e1 g1=>?_;have s1:st1 ra=AA (.ins "Runner" []):=g1.kp ra _ hR ∎ b8;have hR1:=g1.no hR (b8 (st:=st) (a:=ra) (o:=.ins "Runner" []));refine⟨_,rfl,ra,"Runner",_,rfl,s1,by show _∈G.cls "Runner";rw[T.rcls];simp,∅,?_⟩;have e2:g7 "here" (.ref b1) []=[(("here":Str),D.ref b1)]:=rfl;rw[e2];∎;intro fa hfa;have hra:ra≠fa:=k9 b8 hfa;have hfa1:st1 fa=AC:=by rw[i9 hra.symm]at hfa;exact hfa
 refine⟨ra,"Runner",_,rfl,g8 b8 hra,by rw[T.rcls];simp,∎,?_⟩;∎;refine⟨ra,"Runner",_,rfl,b8,by rw[T.rcls];simp,by simp[g7,f8],?_⟩;rw[x8];∎;refine⟨ra,"Runner",_,rfl,b8,by rw[T.rcls];simp,by simp[g7,f8],?_⟩;rw[x8];have ef:g7 "most" (.int (m:Nat)) (g7 "gone" (.int 0) (g7 "forms" (.ref fa) [(("here":Str),D.ref b1)]))=rnF b1 fa 0 m:=by simp[g7,f8,rnF]
 rw[ef];have K2:Kp [ra,fa] st1 (b7 (b7 (b7 st1 ra (.ins "Runner" [("here",.ref b1)])) fa (.lst [])) ra (rnO b1 fa 0 m)):=λx o hx e=>by
  simp only[Ae,Ba,or_false,not_or]at hx;rw[i9 hx.1,i9 hx.2,i9 hx.1];exact e
 have hfa0:R1 fa=AC:=BOk.nn g1.ok hfa1;have g2:=Go.kpL g1.ok K2 (by simp;exact⟨hR1,hfa0⟩) (by simp;rw[b8,i9 hra.symm,b8];exact⟨nofun,nofun⟩);have hfas:st fa=AC:=BJ λz=>by
  obtain⟨o,e⟩:=Bg.mp z
  by_cases hf:R fa=AC
  ·rw[g1.kp fa o hf ∎ (j6 e hb)]at hfa1;cases hfa1
  ·obtain⟨c,hc⟩:=Bg.mp hf;rw[g1.sub fa c hc]at hfa0;cases hfa0
 exact t5 (q R1 _ b1 fa ⟨g2.ok,b8,g8 b8 hra.symm,e1,rfl,hR1,hfa0⟩ hfas ((g0.more ∎).trans ((g1.more ∎).trans g2)))
def a04{p:Pg}{k:Kd}{S:Nat}(hn:20<=n)(hk:Kn [] p k)(hp:p.parts<=2000)(hh:p.hgt<=60)(hS:nxs S p=AA v)(hv:v.nx=AC)(hS2:S<=1000)(hH:∀j q,nxs j p=AA q->q.hgt<=1000)
  (q:∀st' r,nxs (min m S) p=AA r->Kp [] st st'->Q (.tup [r.d,.int ((min m S:Nat):Int)]) st'):sem P G n "run" [p.d,.int (m:Nat)] st Q:=by
 obtain⟨n,rfl⟩:∃k,n=k+20:=⟨n-20,⋯⟩;have W0:Ws (.mk p []):=.mk ⟨hp,hk.cls,by simp only[Cl.p,Cl.es,Av];lia⟩ (λe he=>by cases he);have den0:(Cl.mk p []).den=p:=X0 (λi u hi=>a39 hi) p hk.cls (AW _);have A0:At (.mk p []) [] 0:=⟨W0,by rw[l5];show 1+0<=0+1;lia,∎⟩;obtain⟨c',Fs',N,r,A',z⟩:=ci1 m S _ (.mk p []) [] 0 v k (AW _) A0 (by show Kn [] (Cl.mk p []).den k;rw[den0];exact hk) (by show nxs S (Cl.mk p []).den=_;rw[den0];exact hS) hv (by show ∀j q,nxs j (Cl.mk p []).den=AA q->_;rw[den0];exact hH) (Ao _);have z:nxs (min m S) p=AA (k4 Fs' c'.den):=by
  have:nxs (min m (0+S)-0) (Cl.mk p []).den=AA (k4 Fs' c'.den):=z;rw[den0,Ch,JN]at this;exact this
 rw[Ch]at r A';refine f7 T.run rfl [AA p.d,AA (.int (m:Nat)),AC,AC,AC,AC] rfl ?_;unfold U3;∎;refine⟨by show(AB&&(P _).isSome)=AB;rw[T.rini];rfl,λra hra=>?_⟩;refine aj0 (n:=n+18) ?_;refine bz5 T (R:=λ_=>AC) (b:=ra) ⋯ (λb c e=>by cases e) hra λR1 st1 h1 fa S1 hfa g1=>⟨rfl,?_⟩;refine u3 ⟨N+1,?_⟩;refine by4 T ⋯ r R1 st1 h1 [] S1 λR2 st2 h2 fs2 S2 g2=>?_;have dp:=A'.dp;∎;refine⟨by rw[T.ptog];rfl,fr T S2.ob ∎ rfl ?_⟩;refine az2 T.toPBd ⋯ S2.ok S2.hc A'.ws ⋯ λst3 g3=>?_;have S3:=S2.go g3;have kp3:Go [ra,fa] (λ_=>AC) st R2 st3:=g1.trans (g2.trans (g3.more ∎));have kk:∀{R' st'},Go [ra,fa] (λ_=>AC) st R' st'->Kp [] st st':=λg x o _ e=>g.kp x o rfl (by simp;exact⟨k9 e hra,k9 e hfa⟩) e;∎;refine fr T S3.ob ∎ rfl ?_;refine⟨_,_,rfl,.inl S3.fm,?_⟩;rw[<-Iy];refine A7 (λl env st'=>∃(R':Bm)(pre:List AI)(PreC:List Cl)(y:Pg)(x4 x5:Option D),l=(pre.reverse).map D.ref/\pre.map R'=PreC.map AA/\(∀f∈PreC,Ws f/\f.p.isF=AB/\f.dep<=min m S+1)/\k4 PreC y=k4 Fs' c'.den/\env=[AA p.d,AA (.int (m:Nat)),AA (.ref ra),AA y.d,x4,x5]/\RnS R' st' ra fa h2 fs2 c' Fs' (min m S) m/\Go [ra,fa] (λ_=>AC) st R' st') ?_ ?_ _ _ _ ⟨R2,fs2,Fs',c'.den,AC,AC,rfl,S3.hf,A'.fs,rfl,rfl,S3,kp3⟩
 ·rintro env st' ⟨R',pre,PreC,y,x4,x5,e1,e2,e3,e4,rfl,S',K'⟩;refine⟨.inl S'.fm,?_⟩;have:pre=[]:=by
   have:=congrArg Dl e1;simp at this;exact CG.mp this.symm
  subst this;have:PreC=[]:=CG.mp (by have:=A8 e2;simpa using this.symm);subst this;have e4:y=k4 Fs' c'.den:=e4;subst e4;∎;exact fr T S'.ob ∎ rfl (b9 (q st' _ z (kk K')))
 ·rintro d ds env st' ih ⟨R',pre,PreC,y,x4,x5,e1,e2,e3,e4,rfl,S',K'⟩;refine⟨.inl S'.fm,?_⟩
  rcases E5 pre with rfl|⟨pre,f,rfl⟩
  ·simp at e1
  rcases E5 PreC with rfl|⟨PreC,cf,rfl⟩
  ·have:=A8 e2;simp at this
  rw[Al,Al]at e2;obtain⟨f1,f2⟩:=JP e2 rfl;have hfl:R' f=AA cf:=by simpa using f2
  rw[List.reverse_append,List.reverse_singleton,Hu,An]at e1;obtain⟨rfl,rfl⟩:=IW e1;obtain⟨w1,w2,w3⟩:=e3 cf ∎;obtain⟨as,tg,cp,en,j,B⟩:=S'.ok f _ hfl;rfl';refine u3 ?_;rw[a67,a54];refine⟨by show(P _).isSome=AB;rw[T.ptog];rfl,?_⟩;rw[af1];refine Q8 T.toPBd (n:=n+17) (i:=4) S'.ok hfl rfl (px:=cf.p.wf .star) (λK hK=>?_) λb' R2 st2 e' g2=>?_
  ·refine⟨by show(P _).isSome=AB;rw[T.wfst];rfl,⟨_,rfl,j7 T.toPBd B.at_ ?_⟩⟩;simp only[Q4,a90,af1,a79];exact aw9 T (n:=n+17) (x:=.star) w2 hK
  ·have S2:=S'.go g2;have ws:Ws (.mk (cf.p.wf .star) cf.es):=by obtain⟨pf,ef⟩:=cf;exact bu0 w1 w2
   have hdep:(Cl.mk (cf.p.wf .star) cf.es).dep=cf.dep:=by obtain⟨pf,ef⟩:=cf;rw[l5,l5];rfl
   simp only[Q4];refine az2 T.toPBd (n:=n+19) ⋯ g2.ok e' ws (by rw[hdep];lia) λst3 g3=>?_;have dF:(Cl.mk (cf.p.wf .star) cf.es).den.isF=AB:=(Y6 (A4 w2).1).1;have ed:(Cl.mk (cf.p.wf .star) cf.es).den.wf y=cf.den.wf y:=by obtain⟨pf,ef⟩:=cf;exact bn8 w2
   ∎;refine⟨by rw[T.wfst];rfl,aw9 T (n:=n+17) dF λst4 K4=>?_⟩;rw[ed];have g4:=Go.kp0 g3.ok K4;have S4:=(S2.go g3).go g4;have g24:=g2.trans (g3.trans g4);refine ih _ _ ⟨R2,pre,PreC,cf.den.wf y,_,_,rfl,L8 g24.sub f1,λf hf=>e3 f (by simp[hf]),by rw[<-e4,U1],rfl,S4,K'.trans (g24.more ∎)⟩
end
def fv{p:Pg}(h:p.isF=AB)(h2:p.isV=AB):False:=by cases p<;>first|(cases h;done)|(cases h2;done)
def br9{e':Cl}{k k':Nat}(h:Evl c e k)(h':Evl c e' k'):e=e'/\k=k':=by
 induction h generalizing e' k' with
 |val hv=>
  cases h' with
  |val _=>exact⟨rfl,rfl⟩
  |name _ _|lets _=>cases hv
  |form hF _ _ _=>exact(fv hF hv).elim
 |name e1 _ ih=>
  cases h' with
  |val hv=>cases hv
  |name e2 h2=>rw[e1]at e2;cases e2;exact ih h2
  |form hF _ _ _=>cases hF
 |lets _ ih=>
  cases h' with
  |val hv=>cases hv
  |lets h2=>obtain⟨a,b⟩:=ih h2;exact⟨a,by rw[b]⟩
  |form hF _ _ _=>cases hF
 |form hF _ hb _ ih1 ih2=>
  cases h' with
  |val hv=>exact(fv hF hv).elim
  |name _ _|lets _=>cases hF
  |form _ h1 hb2 h2=>
   obtain⟨rfl,rfl⟩:=ih1 h1;rw[hb]at hb2;cases hb2;obtain⟨a,b⟩:=ih2 h2;exact⟨a,by rw[b]⟩
inductive Hs(H:Nat):Cl->Prop
 |mk {c:Cl}:c.es.length+c.p.hgt<=H->(∀e∈c.es,Hs H e)->Hs H c
def Hs.le(h:Hs H c):c.es.length+c.p.hgt<=H:=by cases h;assumption
def Hs.sub(h:Hs H c):∀e∈c.es,Hs H e:=by cases h;assumption
def W6{p:Pg}{a:Cl}{es:List Cl}(W:es.length+1+p.hgt<=H)(ha:Hs H a)(h:∀e∈es,Hs H e):Hs H (.mk p (a::es)):=.mk W λe he=>by
 rcases Ae.mp he with rfl|he
 ·exact ha
 ·exact h e he
def a76(h:Hs H c)(hF:c.p.isF=AB):Hs H (.mk c.p.f1 c.es)/\c.p.f1.hgt+1<=c.p.hgt:=by
 have W:=h.le;have:c.p.f1.hgt+1<=c.p.hgt:=by cases hp:c.p<;>rw[hp]at hF<;>first|(cases hF;done)|(simp only[Pg.hgt,Pg.f1];lia)
 exact⟨.mk (by show c.es.length+c.p.f1.hgt<=H;lia) h.sub,this⟩
def a58{t u:Pg}{es:List Cl}(h:Hs H (.mk (.lets t u) es)):Hs H (.mk u (.mk t es::es))/\(Cl.mk u (.mk t es::es)).dep<=(Cl.mk (.lets t u) es).dep+1:=by
 have W:=h.le;simp only[Cl.p,Cl.es,Pg.hgt]at W;refine⟨W6 ⋯ (.mk (by simp only[Cl.p,Cl.es];lia) h.sub) h.sub,?_⟩;simp only[l5,C7];lia
def a88{f:Cl}(hf:Hs H f)(he:Hs H e)(h:f.bh e=AA c):Hs H c/\c.dep<=max f.dep e.dep+1:=by
 obtain⟨p,es⟩:=f;obtain⟨v,fs⟩:=e;have W:=hf.le;have V:=he.le;cases p<;>first|(cases h;done)|skip
 all_goals (cases v<;>first|(cases h;done)|skip)
 all_goals
  cases h;simp only[Cl.p,Cl.es,Pg.hgt]at W V
 ·exact⟨.mk (by simp only[Cl.p,Cl.es];lia) he.sub,by simp only[l5];lia⟩
 ·exact⟨.mk (by simp only[Cl.p,Cl.es];lia) he.sub,by simp only[l5];lia⟩
 ·exact⟨W6 ⋯ (.mk (by simp only[Cl.p,Cl.es];lia) he.sub) hf.sub,by simp only[l5,C7];lia⟩
 ·exact⟨W6 ⋯ (.mk (by simp only[Cl.p,Cl.es];lia) he.sub) hf.sub,by simp only[l5,C7];lia⟩
 ·exact⟨W6 ⋯ (.mk (by simp only[Cl.p,Cl.es];lia) hf.sub) he.sub,by simp only[l5,C7];lia⟩
def cf4{k:Nat}(h:Evl c e k):Hs H c->Hs H e/\e.dep<=c.dep+k:=by
 induction h with
 |val _=>exact λh=>⟨h,AW _⟩
 |name e1 _ ih=>
  intro h;have hm:=Cg e1;obtain⟨a,b⟩:=ih (h.sub _ hm);have:=P6 hm;exact⟨a,by rw[l5];lia⟩
 |lets _ ih=>
  intro h;obtain⟨w1,w2⟩:=a58 h;obtain⟨a,b⟩:=ih w1;exact⟨a,⋯⟩
 |form hF _ hb _ ih1 ih2=>
  intro h;obtain⟨a,b⟩:=ih1 (a76 h hF).1;obtain⟨w1,w2⟩:=a88 h a hb;obtain⟨x,y⟩:=ih2 w1;simp only[l5]at b w2 y ⊢;exact⟨x,⋯⟩
inductive Evc:Cl->Cl->Nat->Nat->Prop
 |val {c:Cl}:c.p.isV=AB->Evc c c 0 1
 |name {i es c e k m}:es[i]?=AA c->Evc c e k m->Evc (.mk (.name i) es) e k (m+1)
 |lets {t u es e k m}:Evc (.mk u (.mk t es::es)) e k m->Evc (.mk (.lets t u) es) e (k+1) (m+1)
 |form {c e c1 e' k j m m'}:c.p.isF=AB->Evc (.mk c.p.f1 c.es) e k m->c.bh e=AA c1->Evc c1 e' j m'->Evc c e' (k+1+j) (m+m'+1)
def cc8{k:Nat}(h:Evl c e k):∃m,Evc c e k m:=by
 induction h with
 |val hv=>exact⟨_,.val hv⟩
 |name e1 _ ih=>obtain⟨m,h⟩:=ih;exact⟨_,.name e1 h⟩
 |lets _ ih=>obtain⟨m,h⟩:=ih;exact⟨_,.lets h⟩
 |form hF _ hb _ ih1 ih2=>obtain⟨m,h⟩:=ih1;obtain⟨m',h'⟩:=ih2;exact⟨_,.form hF h hb h'⟩
def Evc.evl{k:Nat}(h:Evc c e k m):Evl c e k:=by
 induction h with
 |@val c hv=>obtain⟨p,es⟩:=c;exact .val hv
 |name e1 _ ih=>exact .name e1 ih
 |lets _ ih=>exact .lets ih
 |@form c e c1 e' k j m m' hF _ hb _ ih1 ih2=>obtain⟨p,es⟩:=c;exact .form hF ih1 hb ih2
inductive Wt where
 |form (f:AI)|name (b:AI) (r:Nat)
abbrev Wt.d:Wt->D
 |.form f=>.tup [.str "form",.ref f,.non]
 |.name b r=>.tup [.str "name",.ref b,.int r]
inductive Wo(H:Nat)(R:Bm):List Wt->Cl->Nat->Nat->Nat->Prop
 |nil {e:Cl} {r:Nat}:Wo H R [] e r r 0
 |name {W b c e r0 r t w}:R b=AA c->r0<=r->Evl c e (r-r0)->Wo H R W e r t w->Wo H R (W++[.name b r0]) e r t w
 |form {W f cf c1 e e' k m r t w}:R f=AA cf->Hs H cf->cf.dep<=r+1->cf.bh e=AA c1->Evc c1 e' k m->Wo H R W e' (r+1+k) t w->Wo H R (W++[.form f]) e r t (m+w)
def Wo.mono{W:List Wt}{w:Nat}(s:∀b c,R b=AA c->R1 b=AA c)(h:Wo H R W e r t w):Wo H R1 W e r t w:=by
 induction h with
 |nil=>exact .nil
 |name h1 h2 h3 _ ih=>exact .name (s _ _ h1) h2 h3 ih
 |form h1 h2 h3 h4 h5 _ ih=>exact .form (s _ _ h1) h2 h3 h4 h5 ih
def Wo.le{W:List Wt}{w:Nat}(h:Wo H R W e r t w):r<=t:=by
 induction h with
 |nil=>exact AW _
 |name _ _ _ _ ih=>exact ih
 |form _ _ _ _ _ _ ih=>lia
@[reducible]noncomputable def rkF(d:D)(wa:AI)(r:Nat):List (Str×D):=[("here",d),("waiting",.ref wa),("reckoned",.int r)]
@[reducible]noncomputable def rkO(d:D)(wa:AI)(r:Nat):Ob:=.ins "Reckoner" (rkF d wa r)
structure RkS(R:Bm)(st:Sto)(ka wa:AI)(d:D)(W:List Wt)(r:Nat):Prop where
 ok:BOk R st
 ob:st ka=AA (rkO d wa r)
 wt:st wa=AA (.lst (W.map Wt.d))
 ka0:R ka=AC
 wa0:R wa=AC
section
variable {d d':D} {W:List Wt} {r':Nat} {k:Nat}
def RkS.go(S:RkS R st ka wa d W r)(G:Go [] R st R1 st1):RkS R1 st1 ka wa d W r:=
 ⟨G.ok,G.kp ka _ S.ka0 ∎ S.ob,G.kp wa _ S.wa0 ∎ S.wt,G.no S.ka0 S.ob,G.no S.wa0 S.wt⟩
def RkS.ne(S:RkS R st ka wa d W r):ka≠wa:=λz=>by have:=S.ob;rw[z,S.wt]at this;cases this
def P4:g7 "here" d' (rkF d wa r)=rkF d' wa r:=by simp[g7,f8,rkF]
def ae6:g7 "reckoned" (.int (r':Nat)) (rkF d wa r)=rkF d wa r':=by simp[g7,f8,rkF]
def b23:g7 "end" d' (bdF c.p as tg cp en k)=bdF c.p as tg cp d' k:=by simp[g7,f8,bdF]
def bh7:g7 "steps" (.int (j:Nat)) (bdF c.p as tg cp en k)=bdF c.p as tg cp en j:=by simp[g7,f8,bdF]
def RkS.at(S:RkS R st ka wa d W r)(d':D)(r':Nat):RkS R (b7 st ka (rkO d' wa r')) ka wa d' W r'/\Go [ka,wa] R st R (b7 st ka (rkO d' wa r')):=by
 have K:Kp [ka,wa] st (b7 st ka (rkO d' wa r')):=Kp.refl.put ∎;have G:=Go.kpL S.ok K (by simp;exact⟨S.ka0,S.wa0⟩) (by simp;rw[b8,i9 S.ne.symm,S.wt];exact⟨nofun,nofun⟩);exact⟨⟨G.ok,b8,g8 S.wt S.ne.symm,S.ka0,S.wa0⟩,G⟩
def RkS.wait(S:RkS R st ka wa d W r)(W':List Wt):RkS R (b7 st wa (.lst (W'.map Wt.d))) ka wa d W' r/\Go [ka,wa] R st R (b7 st wa (.lst (W'.map Wt.d))):=by
 have K:Kp [ka,wa] st (b7 st wa (.lst (W'.map Wt.d))):=Kp.refl.put ∎;have G:=Go.kpL S.ok K (by simp;exact⟨S.ka0,S.wa0⟩) (by simp;rw[b8,i9 S.ne,S.ob];exact⟨nofun,nofun⟩);exact⟨⟨G.ok,g8 S.ob S.ne,b8,S.ka0,S.wa0⟩,G⟩
def Go.ended(h:BOk R st)(e:R b=AA c)(B:BAt R st b c as tg cp en k){en':D}{k':Nat}(he:O2 R c en' k'):Go [] R st R (b7 st b (bdO c.p as tg cp en' k')):=by
 have ne:∀{x:AI},x≠b->b7 st b (bdO c.p as tg cp en' k') x=st x:=λz=>i9 z;refine⟨λ_ _ h=>h,λ_ h1 h2=>absurd h2 h1,λx o h1 _ e1=>by rw[ne (λz=>by rw[z,e]at h1;cases h1)];exact e1,λx hx=>?_,λx d hd⟨as',cp',en1,k1,f⟩=>?_,λx d as' tg' cp' en1 k1 hd f=>?_,λx d hd=>?_⟩
 ·by_cases z:x=b
  ·rw[z,b8];exact nofun
  ·rw[ne z];exact hx
 ·by_cases z:x=b
  ·subst z;rw[e]at hd;cases hd;rw[B.at_]at f;obtain⟨_,rfl⟩:=L7 f;exact⟨as,cp,en',k',b8⟩
  ·exact⟨as',cp',en1,k1,by rw[ne z];exact f⟩
 ·by_cases z:x=b
  ·subst z;rw[e]at hd;cases hd;rw[B.at_]at f;obtain⟨rfl,rfl⟩:=L7 f;cases f;exact⟨_,_,_,b8⟩
  ·exact⟨_,_,_,by rw[ne z];exact f⟩
 ·by_cases z:x=b
  ·subst z;rw[e]at hd;cases hd;exact⟨as,_,cp,_,_,b8,B.as_,B.tg_,he⟩
  ·obtain⟨as',tg',cp',en1,k1,y⟩:=h x d hd;exact⟨as',tg',cp',en1,k1,by rw[ne z];exact y.at_,y.as_,y.tg_,y.en_⟩
end
structure PRk(P:f6)(G:Gs):Prop extends PRn P G where
 kini:P (c6 "Reckoner" "__init__")=AA Z8
 kturn:P (c6 "Reckoner" "turn")=AA J4
 upon:P (c6 "Reckoner" "come_upon")=AA Z7
 cto:P (c6 "Reckoner" "come_to")=AA J3
 stof:P "steps_of"=AA ab3
 kcls:∀f∈([("here":Str),("waiting":Str),("reckoned":Str)]:List Str),f∈G.cls "Reckoner"
section
variable (T:PRk P G) {d:D} {W:List Wt} 
include T
def fk{f:Str}{d':D}(hb:st ka=AA (rkO d wa r))(hf:f∈([("here":Str),("waiting":Str),("reckoned":Str)]:List Str))(hl:(rkF d wa r).lookup f=AA d')(q:Q1 d'):
  ∃q c fs d,D.ref ka=.ref q/\st q=AA (.ins c fs)/\f∈G.cls c/\fs.lookup f=AA d/\Q1 d:=⟨ka,"Reckoner",_,d',rfl,hb,T.kcls f hf,hl,q⟩
@[reducible]noncomputable def ctC:E:=.and (.isN (.fld (.v 0) "here")) (.cmp .Gt (.len (.fld (.v 0) "waiting")) (.int 0))
@[reducible]noncomputable def ctB:Ss:=match J3.body with|.cons _ (.cons (.while _ b) _)=>b|_=>.nil
def bt5{F:DEnds}{w:Nat}(hn:4<=n)(hH:H<1000)(o:Wo H R W e r t w):e.es.length<1000->∀{st:Sto}{x2 x3:Option D},RkS R st ka wa .non W r->R a=AA e ->
  (∀st' x2 x3,RkS R st' ka wa .non [] t->Go [ka,wa] R st R st'->F.nx [AA (.ref ka),AA (.ref a),x2,x3] st') ->
  (∀R' st' x2 x3 h c1 e' k' m' W' f cf r1 w',RkS R' st' ka wa (.ref h) W' (r1+1)->R' h=AA c1->Hs H cf->cf.dep<=r1+1->cf.bh e=AA c1->r1=r->Evc c1 e' k' m'->Wo H R' W' e' (r1+1+k') t w'->m'+w'<=w->W'.length+1<=W.length->f=cf->Go [ka,wa] R st R' st'->F.nx [AA (.ref ka),AA (.ref a),x2,x3] st') ->
  k6 (wpT (Zg P G n) ctC) (d8 (Zg P G n) ctB) F (W.length+1) [AA (.ref ka),AA (.ref a),x2,x3] st:=by
 obtain⟨n,rfl⟩:∃k,n=k+3:=⟨n-3,⋯⟩
 induction o with
 |@nil e r=>
  intro hl st x2 x3 S ha q1 q2;unfold k6 wpT;rfl';refine fk T S.ob ∎ rfl ?_;refine .inl ⟨rfl,?_⟩;rfl';refine fk T S.ob ∎ rfl ?_;rw[o0 (.inl S.wt)];rfl';rw[if_neg ∎];exact q1 st x2 x3 S (Go.refl S.ok)
 |@name W b c e r0 r t w hb hr0 he _ ih=>
  intro hl st x2 x3 S ha q1 q2;rw[show(W++[Wt.name b r0]).length+1=(W.length+1)+1 by simp];unfold k6;generalize hV:k6 (wpT (Zg P G (n+3)) ctC) (d8 (Zg P G (n+3)) ctB) F (W.length+1)=V;unfold wpT;rfl';refine fk T S.ob ∎ rfl ?_;refine .inl ⟨rfl,?_⟩;rfl';refine fk T S.ob ∎ rfl ?_;rw[o0 (.inl S.wt)];rfl';rw[if_pos (by simp only[Al,AU,An,Dx,Ak];lia)];unfold ctB J3;simp only;∎;refine fk T S.ob ∎ rfl ?_;have wt:=S.wt;rw[Al]at wt;rw[N4 wt];obtain⟨S1,G1⟩:=S.wait W;simp only[Wt.d];(iterate 2 ∎);obtain⟨as,tg,cp,en,k,B⟩:=S1.ok b c hb;∎;refine⟨b,"Bound",_,rfl,B.at_,T6 T.toPBd ∎,by simp[bdF],?_⟩;rw[b23];have eO:O2 R c (.ref a) (r-r0):=.inr ⟨a,e,rfl,ha,he⟩;have G2:=Go.ended S1.ok hb B eO;have nb:b≠ka:=S9 hb S1.ka0;have S2ob:b7 (b7 st wa (.lst (W.map Wt.d))) b (bdO c.p as tg cp (.ref a) k) ka=AA (rkO .non wa r):=g8 S1.ob nb.symm;∎;refine fk T S2ob ∎ rfl ?_;rfl';refine⟨b,"Bound",_,rfl,b8,T6 T.toPBd ∎,by simp[bdF],?_⟩;have er:(r:Int)-(r0:Nat)=((r-r0:Nat):Int):=by lia
  rw[er,bh7,x8];have S3:=S1.go G2;rw[<-hV];refine ih hl S3 ha (λst' x2 x3 S' G'=>q1 st' x2 x3 S' ((G1.trans (G2.more ∎)).trans G')) λR' st' x2 x3 h c1 e' k' m' W' f cf r1 w' S' a1 a2 a3 a4 a5 a6 a7 a8 a9 a10 G'=>?_;exact q2 R' st' x2 x3 h c1 e' k' m' W' f cf r1 w' S' a1 a2 a3 a4 a5 a6 a7 a8 (by simp only[AU,Ak];lia) a10 ((G1.trans (G2.more ∎)).trans G')
 |@form W f cf c1 e e' k m r t w hf h2 h3 h4 h5 h6 ih=>
  intro hl st x2 x3 S ha q1 q2;rw[show(W++[Wt.form f]).length+1=(W.length+1)+1 by simp];unfold k6;generalize hV:k6 (wpT (Zg P G (n+3)) ctC) (d8 (Zg P G (n+3)) ctB) F (W.length+1)=V;unfold wpT;rfl';refine fk T S.ob ∎ rfl ?_;refine .inl ⟨rfl,?_⟩;rfl';refine fk T S.ob ∎ rfl ?_;rw[o0 (.inl S.wt)];rfl';rw[if_pos (by simp only[Al,AU,An,Dx,Ak];lia)];unfold ctB J3;simp only;∎;refine fk T S.ob ∎ rfl ?_;have wt:=S.wt;rw[Al]at wt;rw[N4 wt];obtain⟨S1,G1⟩:=S.wait W;simp only[Wt.d];(iterate 3 ∎);refine fk T S1.ob ∎ rfl ?_;rfl';refine⟨ka,"Reckoner",_,rfl,S1.ob,T.kcls _ ∎,by simp[rkF],?_⟩;have er:(r:Int)+1=((r+1:Nat):Int):=by lia
  rw[er,ae6];obtain⟨S2,G2⟩:=S1.at .non (r+1);∎;have hle:=h2.le;refine⟨by rw[T.bform];rfl,au0 T.toPBd S2.ok hf ha h4 ⋯ hl λb' R' st' e1 G3=>?_⟩;have S3:=S2.go G3;rfl';refine⟨ka,"Reckoner",_,rfl,S3.ob,T.kcls _ ∎,by simp[rkF],?_⟩;rw[P4];obtain⟨S4,G4⟩:=S3.at (.ref b') (r+1);rw[<-hV];unfold k6 wpT;rfl';refine fk T S4.ob ∎ rfl ?_;refine .inr ⟨nofun,?_⟩;rfl';have G:=(G1.trans G2).trans ((G3.more ∎).trans G4);exact q2 R' _ _ _ b' c1 e' k m W cf cf r w S4 e1 h2 h3 h4 rfl h5 (h6.mono G.sub) (AW _) ∎ rfl G
end
structure Ck(H:Nat)(R':Bm)(st':Sto)(ka wa:AI)(e:Cl)(r t w L:Nat)(h:AI)(c1 e':Cl)(k' m':Nat)(W':List Wt)(w':Nat):Prop where
 s:RkS R' st' ka wa (.ref h) W' (r+1)
 c:R' h=AA c1
 hs:Hs H c1
 dp:c1.dep<=r+2
 ev:Evc c1 e' k' m'
 wo:Wo H R' W' e' (r+1+k') t w'
 le:m'+w'<=w
 ln:W'.length+1<=L
section
variable (T:PRk P G) {d:D} {W:List Wt} 
include T
def a46{w:Nat}(hn:6<=n)(hH:H<1000)(o:Wo H R W e r t w)(he:Hs H e)(hd:e.dep<=r+1)(S:RkS R st ka wa d W r)(ha:R a=AA e)
  (q1:∀st',RkS R st' ka wa .non [] t->Go [ka,wa] R st R st'->Q .non st') (q2:∀R' st' h c1 e' k' m' W' w',Ck H R' st' ka wa e r t w W.length h c1 e' k' m' W' w'->Go [ka,wa] R st R' st'->Q .non st'):sem P G n (c6 "Reckoner" "come_to") [.ref ka,.ref a] st Q:=by
 obtain⟨n,rfl⟩:∃k,n=k+1:=⟨n-1,⋯⟩;have hl:=he.le;refine f7 T.cto rfl [AA (.ref ka),AA (.ref a),AC,AC] rfl ?_;unfold J3;∎;refine⟨ka,"Reckoner",_,rfl,S.ob,T.kcls _ ∎,by simp[rkF],?_⟩;rw[P4];obtain⟨S1,G1⟩:=S.at .non r;refine u3 ⟨W.length+1,?_⟩;refine bt5 T ⋯ hH o ⋯ S1 ha (λst' x2 x3 S' G'=>t5 (q1 st' S' (G1.trans G'))) λR' st' x2 x3 h c1 e' k' m' W' f cf r1 w' S' a1 a2 a3 a4 a5 a6 a7 a8 a9 a10 G'=>?_;subst a5;obtain⟨b1,b2⟩:=a88 a2 he a4;exact t5 (q2 R' st' h c1 e' k' m' W' w' ⟨S',a1,b1,⋯,a6,a7,a8,a9⟩ (G1.trans G'))
section
def b72{w:Nat}(hn:8<=n)(hH:H<1000)(hv:c.p.isV=AB)(o:Wo H R W c r t w)(hc:Hs H c)(hd:c.dep<=r+1)(S:RkS R st ka wa (.ref h) W r)(e:R h=AA c)
  (q1:∀st',RkS R st' ka wa .non [] t->Go [ka,wa] R st R st'->Q .non st') (q2:∀R' st' h c1 e' k' m' W' w',Ck H R' st' ka wa c r t w W.length h c1 e' k' m' W' w'->Go [ka,wa] R st R' st'->Q .non st'):sem P G n (c6 "Reckoner" "turn") [.ref ka] st Q:=by
 obtain⟨n,rfl⟩:∃k,n=k+1:=⟨n-1,⋯⟩;obtain⟨as,tg,cp,en,k,B⟩:=S.ok h c e;refine f7 T.kturn rfl [AA (.ref ka),AC,AC] rfl ?_;unfold J4;∎;refine fk T S.ob ∎ rfl ?_;∎;refine j7 T.toPBd B.at_ ?_;have fin:∀x2,d8 (Zg P G n) (.cons (.ex (.meth (.v 0) "come_to" (.cons (.v 1) .nil))) .nil) ⟨d8 (Zg P G n) .nil ⟨d8 (Zg P G n) .nil ⟨d8 (Zg P G n) .nil (d9 Q),(d9 Q).rt,(d9 Q).bk,(d9 Q).ct⟩,(d9 Q).rt,(d9 Q).bk,(d9 Q).ct⟩,(d9 Q).rt,(d9 Q).bk,(d9 Q).ct⟩ [AA (.ref ka),AA (.ref h),x2] st:=λx2=>by
  ∎;refine⟨ka,"Reckoner",_,rfl,S.ob,rfl,by rw[T.cto];rfl,?_⟩;exact a46 T ⋯ hH o hc hd S e (λst' S' G'=>t5 (q1 st' S' G')) λR' st' h c1 e' k' m' W' w' C G'=>t5 (q2 R' st' h c1 e' k' m' W' w' C G')
 cases hp:c.p
 all_goals
  rw[hp]at hv
  first|(cases hv;done)|skip
 all_goals
  simp only[Pg.d];rfl';(iterate 2 ∎);refine S6 T.toPRn ?_;rw[R9];refine⟨g9 _,?_⟩;simp only[CW,EN,EH,f8,BZ,decide_true,decide_false,Bv,Bj,Bk,BS,if_true];rfl';∎;exact fin _
def b30{t u:Pg}{es:List Cl}(hn:8<=n)(hl:es.length<1000)(S:RkS R st ka wa (.ref h) W r)(e:R h=AA (.mk (.lets t u) es))
  (q:∀R' st' h',RkS R' st' ka wa (.ref h') W (r+1)->R' h'=AA (.mk u (.mk t es::es))->Go [ka,wa] R st R' st'->Q .non st'):sem P G n (c6 "Reckoner" "turn") [.ref ka] st Q:=by
 obtain⟨n,rfl⟩:∃k,n=k+8:=⟨n-8,⋯⟩;obtain⟨as,tg,cp,en,k,B⟩:=S.ok h _ e;refine f7 T.kturn rfl [AA (.ref ka),AC,AC] rfl ?_;unfold J4;∎;refine fk T S.ob ∎ rfl ?_;∎;refine j7 T.toPBd B.at_ ?_;simp only[Cl.p,Pg.d];rfl';(iterate 2 ∎);refine S6 T.toPRn ?_;rw[R9];refine⟨g9 _,?_⟩;simp only[CW,EN,EH,f8,BZ,decide_true,decide_false,Bv,Bj,Bk,BS,if_true];rfl';(iterate 2 ∎);refine fk T S.ob ∎ rfl ?_;rfl';refine⟨ka,"Reckoner",_,rfl,S.ob,T.kcls _ ∎,by simp[rkF],?_⟩;have er:(r:Int)+1=((r+1:Nat):Int):=by lia
 rw[er,ae6];obtain⟨S1,G1⟩:=S.at (.ref h) (r+1);∎;refine⟨by rw[T.blet];rfl,V5 T.toPBd S1.ok e hl (λz=>absurd rfl (z t u)) λt' u' b' R' st' e1 e2 G2=>?_⟩;cases e1;have S2:=S1.go G2;rfl';refine⟨ka,"Reckoner",_,rfl,S2.ob,T.kcls _ ∎,by simp[rkF],?_⟩;rw[P4];obtain⟨S3,G3⟩:=S2.at (.ref b') (r+1);exact t5 (q R' _ b' S3 e2 (G1.trans ((G2.more ∎).trans G3)))
def by3(hn:8<=n)(hF:c.p.isF=AB)(hl:W.length<16000000)(S:RkS R st ka wa (.ref h) W r)(e:R h=AA c)
  (q:∀R' st' h',RkS R' st' ka wa (.ref h') (W++[.form h]) r->R' h'=AA (.mk c.p.f1 c.es)->Go [ka,wa] R st R' st'->Q .non st'):sem P G n (c6 "Reckoner" "turn") [.ref ka] st Q:=by
 obtain⟨n,rfl⟩:∃k,n=k+5:=⟨n-5,⋯⟩;obtain⟨as,tg,cp,en,k,B⟩:=S.ok h _ e;obtain⟨S1,G1⟩:=S.wait (W++[.form h]);refine f7 T.kturn rfl [AA (.ref ka),AC,AC] rfl ?_;unfold J4;∎;refine fk T S.ob ∎ rfl ?_;∎;refine j7 T.toPBd B.at_ ?_;have fin:∀x2,d8 (Zg P G (n+4)) (.cons (.ex (.app (.fld (.v 0) "waiting") (.tup (.cons (.str "form") (.cons (.v 1) (.cons .non .nil)))))) (.cons (.fldS (.v 0) "here" (.make "Bound" (.cons (.ix (.call "inner" (.cons (.fld (.v 1) "program") .nil)) (.int 0)) (.cons (.fld (.v 1) "around") .nil)))) .nil)) ⟨d8 (Zg P G (n+4)) .nil ⟨d8 (Zg P G (n+4)) .nil (d9 Q),(d9 Q).rt,(d9 Q).bk,(d9 Q).ct⟩,(d9 Q).rt,(d9 Q).bk,(d9 Q).ct⟩ [AA (.ref ka),AA (.ref h),x2] st:=λx2=>by
  ∎;refine fk T S.ob ∎ rfl ?_;rw[u1 (.inl S.wt),z5 S.wt];refine⟨trivial,B7 (by rw[AX];exact hl),?_⟩;have e1:W.map Wt.d++[.tup [.str "form",.ref h,.non]]=(W++[Wt.form h]).map Wt.d:=by simp[Wt.d]
  rw[e1];obtain⟨as1,tg1,cp1,en1,k1,B1⟩:=S1.ok h _ e;refine u3 ?_;rw[Q6];refine Q8 T.toPBd (n:=n+2) (i:=1) S1.ok e rfl (px:=c.p.f1) (λK hK=>?_) λb' R' st' e' G2=>?_
  ·refine⟨by show(P _).isSome=AB;rw[T.inner];rfl,⟨_,rfl,j7 T.toPBd B1.at_ ?_⟩⟩;simp only[Q4];refine U4 (n:=n+3) T.toPIn c.p λa ha=>?_;obtain⟨r,er⟩:=av3 T.toPRn hF;exact .inl ⟨_,c.p.f1.d,.inl b8,by rw[er];show atI _ ((0:Nat):Int)=_;rw[o7];rfl,hK _ (Kp.refl.new ha)⟩
  ·have S2:=S1.go G2;refine⟨_,rfl,ka,"Reckoner",_,rfl,S2.ob,T.kcls _ ∎,by simp[rkF],?_⟩;rw[P4];obtain⟨S3,G3⟩:=S2.at (.ref b') r;exact t5 (q R' _ b' S3 e' (G1.trans ((G2.more ∎).trans G3)))
 cases hp:c.p
 all_goals
  rw[hp]at hF
  first|(cases hF;done)|skip
 all_goals
  simp only[Pg.d];rfl';(iterate 2 ∎);refine S6 T.toPRn ?_;rw[R9];refine⟨g9 _,?_⟩;simp only[CW,EN,EH,f8,BZ,decide_true,decide_false,Bv,Bj,Bk,BS,if_true];rfl';exact fin _
def bs3{es:List Cl}{e1:Cl}{k1 w:Nat}(hn:9<=n)(hH:H<1000)(hl:W.length<16000000)(S:RkS R st ka wa (.ref h) W r)(e:R h=AA (.mk (.name i) es))(ei:es[i]?=AA c1)(ev:Evl c1 e1 k1)(o:Wo H R W e1 (r+k1) t w)(hs:Hs H c1)(hd:c1.dep<=r+1)
  (q0:∀st' b,RkS R st' ka wa (.ref b) (W++[.name b r]) r->R b=AA c1->Go [ka,wa] R st R st'->Q .non st')
  (q1:∀st',RkS R st' ka wa .non [] t->Go [ka,wa] R st R st'->Q .non st') (q2:∀R' st' h c2 e' k' m' W' w',Ck H R' st' ka wa e1 (r+k1) t w W.length h c2 e' k' m' W' w'->Go [ka,wa] R st R' st'->Q .non st'):sem P G n (c6 "Reckoner" "turn") [.ref ka] st Q:=by
 obtain⟨n,rfl⟩:∃k,n=k+2:=⟨n-2,⋯⟩;obtain⟨as,tg,cp,en,k,B⟩:=S.ok h _ e;obtain⟨b,b1,b2⟩:=u9 B.as_ ei;refine f7 T.kturn rfl [AA (.ref ka),AC,AC] rfl ?_;unfold J4;∎;refine fk T S.ob ∎ rfl ?_;∎;refine j7 T.toPBd B.at_ ?_;simp only[Cl.p,Pg.d];rfl';(iterate 2 ∎);refine⟨ka,"Reckoner",_,rfl,S.ob,rfl,by rw[T.upon];rfl,v9 T.toPBd B.at_ ?_⟩;refine j7 T.toPBd B.at_ ?_;simp only[Cl.p,Pg.d];rfl';refine⟨.ref b,by rw[o7,Aw,b1];rfl,?_⟩;rfl';obtain⟨as1,tg1,cp1,en1,j1,B1⟩:=S.ok b _ b2;refine f7 T.upon rfl [AA (.ref ka),AA (.ref b)] rfl ?_;unfold Z7;∎;refine fb T.toPBd B1.at_ ∎ rfl ?_
 rcases B1.en_ with rfl|⟨ae,ce,rfl,re,ev2⟩
 ·refine .inl ⟨rfl,?_⟩;rfl';∎;refine fk T S.ob ∎ rfl ?_;rw[u1 (.inl S.wt)];refine⟨trivial,fk T S.ob ∎ rfl ?_⟩;rw[z5 S.wt];refine⟨B7 (by rw[AX];exact hl),?_⟩;have e2:W.map Wt.d++[.tup [.str "name",.ref b,.int (r:Nat)]]=(W++[Wt.name b r]).map Wt.d:=by simp[Wt.d]
  rw[e2];obtain⟨S1,G1⟩:=S.wait (W++[.name b r]);∎;refine⟨ka,"Reckoner",_,rfl,S1.ob,T.kcls _ ∎,by simp[rkF],?_⟩;rw[P4];obtain⟨S2,G2⟩:=S1.at (.ref b) r;exact t5 (t5 (q0 _ b S2 b2 (G1.trans G2)))
 ·obtain⟨rfl,rfl⟩:=br9 ev ev2;refine .inr ⟨nofun,?_⟩;rfl';∎;refine fk T S.ob ∎ rfl ?_;refine fb T.toPBd B1.at_ ∎ rfl ?_;rfl';refine⟨ka,"Reckoner",_,rfl,S.ob,T.kcls _ ∎,by simp[rkF],?_⟩;have er:(r:Int)+(k1:Nat)=((r+k1:Nat):Int):=by lia
  rw[er,ae6];obtain⟨S1,G1⟩:=S.at (.ref h) (r+k1);obtain⟨as2,tg2,cp2,en2,j2,B2⟩:=S1.ok b _ b2;have B2':b7 st ka (rkO (.ref h) wa (r+k1)) b=AA (bdO c1.p as1 tg1 cp1 (.ref ae) k1):=g8 B1.at_ (S9 b2 S.ka0);∎;refine⟨ka,"Reckoner",_,rfl,S1.ob,rfl,by rw[T.cto];rfl,fb T.toPBd B2' ∎ rfl ?_⟩;rfl';obtain⟨w1,w2⟩:=cf4 ev hs;exact a46 T ⋯ hH o w1 ⋯ S1 re (λst' S' G'=>t5 (t5 (q1 st' S' (G1.trans G')))) λR' st' h c2 e' k' m' W' w' C G'=>t5 (t5 (q2 R' st' h c2 e' k' m' W' w' C (G1.trans G')))
end
end
section
variable (T:PRk P G) 
@[reducible]noncomputable def rkW(P:f6)(G:Gs)(n:Nat)(F:DEnds):Nat->c9->Sto->Prop:=k6 (wpT (Zg P G n) (.notN (.fld (.v 1) "here"))) (d8 (Zg P G n) (.cons (.ex (.meth (.v 1) "turn" .nil)) .nil)) F
def a87(hs:Hs H c)(hd:c.dep<=r+1)(hr:r<=t):c.dep*H+c.p.hgt<=(t+2)*H:=by
 have:=hs.le;have a:c.dep*H<=(t+1)*H:=Dm _ ⋯;rw[Hm (t+1) H];lia
include T
def ca9{F:DEnds}{x0:Option D}(hn:10<=n)(hH:H<1000)(hb:(t+2)*H*(t+1)<16000000):∀(M:Nat)(c e:Cl)(k m:Nat)(W:List Wt)(r w:Nat)(R:Bm)(st:Sto)(h:AI),m+w<=M->Evc c e k m->Wo H R W e (r+k) t w->RkS R st ka wa (.ref h) W r->R h=AA c->Hs H c->c.dep<=r+1 ->
  W.length+(c.dep*H+c.p.hgt)<=(t+2)*H*(r+1)->(∀R' st',RkS R' st' ka wa .non [] t->Go [ka,wa] R st R' st'->F.nx [x0,AA (.ref ka)] st')->∀K,M+1<=K->rkW P G n F K [x0,AA (.ref ka)] st:=by
 have go:∀{R:Bm}{st:Sto}{h:AI}{W:List Wt}{r K:Nat},RkS R st ka wa (.ref h) W r->sem P G n (c6 "Reckoner" "turn") [.ref ka] st (λ_ st'=>rkW P G n F K [x0,AA (.ref ka)] st')->rkW P G n F (K+1) [x0,AA (.ref ka)] st:=λ{R st h W r K}S z=>by
  unfold rkW k6;generalize hV:k6 (wpT (Zg P G n) (.notN (.fld (.v 1) "here"))) (d8 (Zg P G n) (.cons (.ex (.meth (.v 1) "turn" .nil)) .nil)) F K=V;unfold wpT;rfl';refine fk T S.ob ∎ rfl ?_;refine .inr ⟨nofun,?_⟩;∎;refine⟨ka,"Reckoner",_,rfl,S.ob,rfl,by rw[T.kturn];rfl,?_⟩;rw[<-hV];exact z
 have fin:∀{R:Bm}{st:Sto}{K:Nat},RkS R st ka wa .non [] t->F.nx [x0,AA (.ref ka)] st->1<=K->rkW P G n F K [x0,AA (.ref ka)] st:=λ{R st K}S z hK=>by
  obtain⟨K,rfl⟩:∃j,K=j+1:=⟨K-1,⋯⟩;unfold rkW k6 wpT;rfl';refine fk T S.ob ∎ rfl ?_;refine .inl ⟨rfl,?_⟩;rfl';exact z
 have X1:∀r,(t+2)*H*(r+1+1)=(t+2)*H*(r+1)+(t+2)*H:=λr=>Nat.mul_succ _ _;have Xm:∀{r s},r<=s->(t+2)*H*(r+1)<=(t+2)*H*(s+1):=λh=>Nat.mul_le_mul_left _ ⋯;intro M
 induction M with
 |zero=>intro c e k m W r w R st h hM ev;cases ev<;>lia
 |succ M ih=>
 intro c e k m W r w R st h hM ev o S hc hs hd hlen q K hK;obtain⟨K,rfl⟩:∃j,K=j+1:=⟨K-1,⋯⟩;have rt:=o.le;have hW:W.length<16000000:=by have:=Xm (show r<=t by lia);lia
 have nxt:∀{r' w0 L:Nat}{e0:Cl}{R':Bm}{st':Sto}{h':AI}{c1 e':Cl}{k' m':Nat}{W':List Wt}{w':Nat},r<=r'->w0<=M->L=W.length->Ck H R' st' ka wa e0 r' t w0 L h' c1 e' k' m' W' w'->Go [ka,wa] R st R' st'->rkW P G n F K [x0,AA (.ref ka)] st':=λ{r' w0 L e0 R' st' h' c1 e' k' m' W' w'}hr hw hL C G'=>by
  have z:=C.wo.le;have mu:=a87 (t:=t) C.hs C.dp ⋯;refine ih c1 e' k' m' W' (r'+1) w' R' st' h' (by have:=C.le;lia) C.ev C.wo C.s C.c C.hs C.dp ?_ (λR2 st2 S2 G2=>q R2 st2 S2 (G'.trans G2)) K ⋯;have:=C.ln;have:=X1 r';have:=Xm hr;lia
 cases ev with
 |val hv=>exact go S (b72 T ⋯ hH hv o hs hd S hc (λst' S' G'=>fin S' (q R st' S' G') ⋯) λR' st' h' c1 e' k' m' W' w' C G'=>nxt (AW _) ⋯ rfl C G')
 |@name i es c1 _ _ m ei ev=>
  have hm:=Cg ei;have dm:=P6 hm;have hs1:=hs.sub c1 hm;rw[l5]at hd hlen;refine go S (bs3 T ⋯ hH hW S hc ei ev.evl o hs1 ⋯ (λst' b S' hb' G'=>?_) (λst' S' G'=>fin S' (q R st' S' G') ⋯) λR' st' h' c2 e' k' m' W' w' C G'=>nxt (JQ _ _) ⋯ rfl C G');refine ih c1 e k m (W++[.name b r]) r w R st' b ⋯ ev (.name hb' (JQ _ _) (by rw[Ej];exact ev.evl) o) S' hb' hs1 ⋯ ?_ (λR2 st2 S2 G2=>q R2 st2 S2 (G'.trans G2)) K ⋯;have:=hs1.le;have a:(c1.dep+1)*H<=(1+Cl.deps es)*H:=Dm _ ⋯;rw[Hm]at a;simp only[Cl.p,Pg.hgt]at hlen;simp only[AU,Ak];lia
 |@lets t' u es _ k m ev=>
  obtain⟨w1,w2⟩:=a58 hs;have hl:=hs.le;simp only[Cl.es]at hl;refine go S (b30 T ⋯ ⋯ S hc λR' st' h' S' hc' G'=>?_);have mu:=a87 (t:=t) (r:=r+1) w1 ⋯ ⋯;refine ih _ e k m W (r+1) w R' st' h' ⋯ ev (by rw[show r+1+k=r+(k+1) by lia];exact o.mono G'.sub) S' hc' w1 ⋯ ?_ (λR2 st2 S2 G2=>q R2 st2 S2 (G'.trans G2)) K ⋯;have:=X1 r;lia
 |@form _ e1 c1 _ k1 j m1 m2 hF ev1 hbh ev2=>
  obtain⟨w1,w2⟩:=a76 hs hF;refine go S (by3 T ⋯ hF hW S hc λR' st' h' S' hc' G'=>?_);have hdep:(Cl.mk c.p.f1 c.es).dep=c.dep:=by obtain⟨p,es⟩:=c;rw[l5,l5];rfl
  refine ih _ e1 k1 m1 (W++[.form h]) r (m2+w) R' st' h' ⋯ ev1 (.form (G'.sub _ _ hc) hs ⋯ hbh ev2 (by rw[show r+k1+1+j=r+(k1+1+j) by lia];exact o.mono G'.sub)) S' hc' w1 (by rw[hdep];lia) ?_ (λR2 st2 S2 G2=>q R2 st2 S2 (G'.trans G2)) K ⋯;rw[hdep];simp only[AU,Ak];show W.length+1+(c.dep*H+c.p.f1.hgt)<=_;lia
def bv7{p:Pg}(hn:3<=n)(h:BOk R st)(hb:st ka=AC)(q:∀R' st' h' wa,RkS R' st' ka wa (.ref h') [] 0->R' h'=AA (.mk p [])->st wa=AC->Go [ka,wa] R st R' st'->Q .non st'):sem P G n (c6 "Reckoner" "__init__") [.ref ka,p.d] (b7 st ka (.ins "Reckoner" [])) Q:=by
 obtain⟨n,rfl⟩:∃k,n=k+3:=⟨n-3,⋯⟩;have hR:=BOk.nn h hb;have K0:Kp [] st (b7 st ka (.ins "Reckoner" [])):=Kp.refl.new hb;have g0:=Go.kp0 h K0;refine f7 T.kini rfl [AA (.ref ka),AA p.d] rfl ?_;unfold Z8;refine u3 ?_;rw[Q6];refine⟨T3 T.toPBd,⟨_,rfl,?_⟩⟩;intro b1 h1;refine P1 T.toPBd (as:=[]) (es:=[]) g0.ok rfl h1 λR1 st1 e1 g1=>?_;have s1:st1 ka=AA (.ins "Reckoner" []):=g1.kp ka _ hR ∎ b8;have hR1:=g1.no hR (b8 (st:=st) (a:=ka) (o:=.ins "Reckoner" []));refine⟨_,rfl,ka,"Reckoner",_,rfl,s1,T.kcls _ ∎,∅,?_⟩;have e2:g7 "here" (.ref b1) []=[(("here":Str),D.ref b1)]:=rfl;rw[e2];∎;intro fa hfa;have hra:ka≠fa:=k9 b8 hfa;have hfa1:st1 fa=AC:=by rw[i9 hra.symm]at hfa;exact hfa
 refine⟨ka,"Reckoner",_,rfl,g8 b8 hra,T.kcls _ ∎,∎,?_⟩;∎;refine⟨ka,"Reckoner",_,rfl,b8,T.kcls _ ∎,by simp[g7,f8],?_⟩;rw[x8];have ef:g7 "reckoned" (.int 0) (g7 "waiting" (.ref fa) [(("here":Str),D.ref b1)])=rkF (.ref b1) fa 0:=by simp[g7,f8,rkF]
 rw[ef];have K2:Kp [ka,fa] st1 (b7 (b7 (b7 st1 ka (.ins "Reckoner" [("here",.ref b1)])) fa (.lst [])) ka (rkO (.ref b1) fa 0)):=λx o hx e=>by
  simp only[Ae,Ba,or_false,not_or]at hx;rw[i9 hx.1,i9 hx.2,i9 hx.1];exact e
 have hfa0:R1 fa=AC:=BOk.nn g1.ok hfa1;have g2:=Go.kpL g1.ok K2 (by simp;exact⟨hR1,hfa0⟩) (by simp;rw[b8,i9 hra.symm,b8];exact⟨nofun,nofun⟩);have hfas:st fa=AC:=BJ λz=>by
  obtain⟨o,e⟩:=Bg.mp z
  by_cases hf:R fa=AC
  ·rw[g1.kp fa o hf ∎ (j6 e hb)]at hfa1;cases hfa1
  ·obtain⟨c,hc⟩:=Bg.mp hf;rw[g1.sub fa c hc]at hfa0;cases hfa0
 exact t5 (q R1 _ b1 fa ⟨g2.ok,b8,g8 b8 hra.symm,hR1,hfa0⟩ e1 hfas ((g0.more ∎).trans ((g1.more ∎).trans g2)))
def ay3{p:Pg}{k:Kd}{S:Nat}(hn:14<=n)(hk:Kn [] p k)(hS:nxs S p=AA v)(hv:v.nx=AC)(hp:p.hgt<=H)(hH:H<1000)(hb:(S+2)*H*(S+1)<16000000)
  (q:∀st',Kp [] st st'->Q (.int (S:Nat)) st'):sem P G n "steps_of" [p.d] st Q:=by
 obtain⟨n,rfl⟩:∃k,n=k+14:=⟨n-14,⋯⟩;have den0:(Cl.mk p []).den=p:=X0 (λi u hi=>a39 hi) p hk.cls (AW _);obtain⟨e,ev,_,_⟩:=ci7 S _ (.mk p []) v k (AW _) (.mk hk.cls (λc hc=>by cases hc)) (by rw[den0];exact hk) (by rw[den0];exact hS) hv;obtain⟨m,ev⟩:=cc8 ev;have hs:Hs H (.mk p []):=.mk (by show 0+p.hgt<=H;lia) (λc hc=>by cases hc);have dp:(Cl.mk p []).dep=1:=by rw[l5];rfl
 refine f7 T.stof rfl [AA p.d,AC] rfl ?_;unfold ab3;∎;refine⟨by show(AB&&(P _).isSome)=AB;rw[T.kini];rfl,λka hka=>?_⟩;refine aj0 (n:=n+12) ?_;refine bv7 T (R:=λ_=>AC) ⋯ (λb c e=>by cases e) hka λR1 st1 h1 wa S1 hc hwa g1=>⟨rfl,?_⟩;refine u3 ⟨m+1,?_⟩;refine ca9 T (t:=S) ⋯ hH hb m (.mk p []) e S m [] 0 0 R1 st1 h1 ⋯ ev (by rw[Ch];exact .nil) S1 hc hs ⋯ ?_ (λR2 st2 S2 g2=>?_) _ (AW _)
 ·rw[dp];show 0+(1*H+p.hgt)<=(S+2)*H*(0+1);rw[Ch,Ch,Nat.one_mul,Nat.mul_one];have:2*H<=(S+2)*H:=Dm _ ⋯;lia
 ·∎;exact fk T S2.ob ∎ rfl (b9 (q st2 λx o _ e=>(g1.trans g2).kp x o rfl (by simp;exact⟨k9 e hka,k9 e hwa⟩) e))
end
structure P52(P:f6)(G:Gs):Prop where
 deck:P "_law_deck"=AA w8
 next:P "_law_next"=AA ab4
 kind:P "_law_kind"=AA ab7
 many:P "_law_many"=AA T8
 plain:P "_law_plain"=AA J5
 made:P "_law_made"=AA ab2
 taken:P "_law_taken"=AA aa7
 term:P "_law_term"=AA O6
 under:P "_law_under"=AA aa8
 lift:P "_law_lift"=AA ab8
 put:P "_law_put"=AA ac1
 gone:P "_law_gone"=AA ab5
 onw:P "_law_onward"=AA aa6
 plc:P "_law_placed_in"=AA T7
 whole:P "_law_whole"=AA ab0
abbrev Kd.gd:Kd->Prop
 |.non=>False|.one=>True
 |.eith a b=>(a=.non\/a.gd)/\b.gd
 |.both a b=>a.gd/\b.gd
 |.way a b=>(a=.non\/a.gd)/\b.gd
theorem Kd.gd_pos:∀{k:Kd},k.gd->0<k.cnt
 |.one,_=>Nat.one_pos
 |.eith a b,h=>Ab (gd_pos h.2) (Nat.le_add_left _ _)
 |.both a b,h=>Nat.mul_pos (gd_pos h.1) (gd_pos h.2)
 |.way a b,h=>Nat.pow_pos (gd_pos h.2)
@[reducible]noncomputable def Kd.sm(k:Kd):Prop:=k.gd/\k.nest<=2
@[reducible]noncomputable def Kd.smn(k:Kd):Prop:=k=.non\/k.sm
abbrev Kd.gw:Kd->Prop
 |.non=>False|.one=>True
 |.eith a b=>a.smn/\b.sm
 |.both a b=>a.gw/\b.gw
 |.way a b=>a.smn/\(a=.non->b.nest<=3)/\b.gw
def Q2{a b:Kd}(h:1+max a.nest b.nest<=m+1):a.nest<=m:=Ay (Fu a.nest b.nest) ⋯
def M7{a b:Kd}(h:1+max a.nest b.nest<=m+1):b.nest<=m:=Ay (GW a.nest b.nest) ⋯
theorem Kd.gd_gw:∀{k:Kd},k.gd->k.nest<=3->k.gw
 |.one,_,_=>trivial
 |.eith a b,h,hn=>⟨h.1.imp_right λz=>⟨z,Q2 hn⟩,h.2,M7 hn⟩
 |.both a b,h,hn=>⟨gd_gw h.1 (Cj (Q2 hn)),gd_gw h.2 (Cj (M7 hn))⟩
 |.way a b,h,hn=>⟨h.1.imp_right λz=>⟨z,Q2 hn⟩,λ_=>Cj (M7 hn),gd_gw h.2 (Cj (M7 hn))⟩
theorem Kd.sm.gw{k:Kd}(h:k.sm):k.gw:=gd_gw h.1 (Cj h.2)
theorem Kd.few:∀(m:Nat){k:Kd},k.nest<=m->m<=2->k.cnt<=2^m/\k.bd 4
 |_,.non,_,_=>⟨Ao _,trivial⟩
 |m,.one,_,_=>⟨Nat.one_le_two_pow,by show 1<=4;decide⟩
 |0,.eith a b,h,_|0,.both a b,h,_|0,.way a b,h,_=>by simp only[Kd.nest]at h;lia
 |1,.eith a b,h,_|1,.both a b,h,_|1,.way a b,h,_=>by
  obtain⟨a1,a2⟩:=few 0 (Q2 h) ∅;obtain⟨b1,b2⟩:=few 0 (M7 h) ∅;have ea:a.cnt=0\/a.cnt=1:=by lia
  have eb:b.cnt=0\/b.cnt=1:=by lia
  refine⟨?_,a2,b2,?_⟩<;>(try simp only[Kd.cnt])<;>(rcases ea with e|e<;>rcases eb with f|f<;>rw[e,f]<;>decide)
 |2,.eith a b,h,_|2,.both a b,h,_|2,.way a b,h,_=>by
  obtain⟨a1,a2⟩:=few 1 (Q2 h) ∅;obtain⟨b1,b2⟩:=few 1 (M7 h) ∅;have ea:a.cnt=0\/a.cnt=1\/a.cnt=2:=by lia
  have eb:b.cnt=0\/b.cnt=1\/b.cnt=2:=by lia
  refine⟨?_,a2,b2,?_⟩<;>(try simp only[Kd.cnt])<;>(rcases ea with e|e|e<;>rcases eb with f|f|f<;>rw[e,f]<;>decide)
 |m+3,_,_,h=>by lia
abbrev Kd.ms:Kd->Nat
 |.non=>7|.one=>3
 |.eith a b=>2+a.ms+b.ms
 |.both a b=>2+a.ms+b.ms
 |.way a b=>2+a.ms+b.ms
abbrev Kd.pl:Kd->Pg
 |.non=>.star|.one=>.star
 |.eith a b=>if 0<a.cnt then .left b a.pl else .right a b.pl
 |.both a b=>.pair a.pl b.pl
 |.way a b=>if a.cnt=0 then .way a (.never b (.name 0))else .way a b.pl
section
variable (T:P52 P G)
include T
def E7{m:Int}(hm:0<m)(h:l7 st a)(q:∀r st',0<=r->r<m->l7 st' a->Kp [a] st st'->Q (.int r) st'):sem P G (n+1) "_law_next" [.ref a,.int m] st Q:=by
 obtain⟨l,h⟩:=h;refine f7 T.next rfl [AA (.ref a),AA (.int m)] rfl ?_;unfold ab4;dsimp only;∎;rw[o0 (.inl h)];rfl';cases l with
 |nil=>
  rw[if_pos ∎];∎;exact b9 (q 0 st (Ki _) hm ⟨[],h⟩ Kp.refl)
 |cons x l=>
  rw[if_neg (by simp only[An,AS];lia)];∎;rw[u1 (.inl h)];refine⟨trivial,⟨∅,∅⟩,_,0,.int x,h,by simp[ixN],rfl,?_⟩;simp only[a40];refine⟨hm,b9 (q _ _ (Ey _ ⋯) (EF _ hm) ⟨l,?_⟩ (Kp.refl.put ∎))⟩;rw[b8];rfl
def P2:∀(k:Kd){n:Nat}{st:Sto}{Q:DK},k.nest+1<=n->k.bd 4->Q (.int k.cnt) st->sem P G n "_law_many" [k.d] st Q:=by
 have leaf:∀(w:String)(n:Nat)(st:Sto)(Q:DK),(w="none"\/w="one")->Q (.int (if w="one" then 1 else 0)) st->sem P G (n+1) "_law_many" [.tup [.str w]] st Q:=λw n st Q hw q=>by
  refine f7 T.many rfl [AA (.tup [.str w]),AC,AC,AC,AC] rfl ?_;unfold T8;∎;refine⟨g9 _,by simp only[u4,u6,g9,BU],Ao _,?_⟩;rw[if_pos (by rcases hw with rfl|rfl<;>decide)];∎
  rcases hw with rfl|rfl<;>exact b9 q
 have node:∀(w:String)(a b:Kd)(n:Nat)(st:Sto)(Q:DK)(v:Nat),(∀Q:DK,Q (.int a.cnt) st->sem P G n "_law_many" [a.d] st Q)->(∀Q:DK,Q (.int b.cnt) st->sem P G n "_law_many" [b.d] st Q)->a.cnt<=4->b.cnt<=4 ->
   ((w="either"/\v=a.cnt+b.cnt)\/(w="both"/\v=a.cnt*b.cnt)\/(w="way"/\v=b.cnt^a.cnt))->Q (.int v) st->sem P G (n+1) "_law_many" [.tup [.str w,a.d,b.d]] st Q:=λw a b n st Q v ha hb la lb hw q=>by
  refine f7 T.many rfl [AA (.tup [.str w,a.d,b.d]),AC,AC,AC,AC] rfl ?_;unfold T8;∎;refine⟨g9 _,by simp only[u4,u6,g9,BU],Ao _,?_⟩;rw[if_neg (by rcases hw with⟨rfl,_⟩|⟨rfl,_⟩|⟨rfl,_⟩<;>decide)];∎;refine⟨by rw[T.many];rfl,ha _ ?_⟩;∎;refine⟨by rw[T.many];rfl,hb _ ?_⟩
  rcases hw with⟨rfl,rfl⟩|⟨rfl,rfl⟩|⟨rfl,rfl⟩
  ·(iterate 2 ∎);exact b9 (by simpa using q)
  ·(iterate 3 ∎);exact⟨F3 ⟨⋯,⋯⟩,b9 (by simpa using q)⟩
  ·(iterate 4 ∎);refine⟨⋯,?_⟩;refine A7 (λl env st'=>st'=st/\∃(f:Nat)(x:Option D),env=[AA (.tup [.str "way",a.d,b.d]),AA (.int a.cnt),AA (.int b.cnt),AA (.int f),x]/\f*b.cnt^l.length=b.cnt^a.cnt) ?_ ?_ _ _ _ ⟨rfl,1,AC,rfl,by simp[l8]⟩
   ·rintro env st' ⟨rfl,f,x,rfl,e⟩;refine⟨trivial,?_⟩;∎;have:f=b.cnt^a.cnt:=by rw[<-e];simp
    rw[this];exact b9 q
   ·rintro d ds env st' ih ⟨rfl,f,x,rfl,e⟩;refine⟨trivial,?_⟩;rfl';∎;refine⟨F3 ⟨⋯,⋯⟩,ih _ _ ⟨rfl,f*b.cnt,_,by rw[JS],?_⟩⟩;rw[<-e,AS,KS,Nat.mul_assoc,JD b.cnt]
 intro k
 induction k with
 |non=>intro n st Q hn _ q;obtain⟨n,rfl⟩:∃k,n=k+1:=⟨n-1,⋯⟩;exact leaf "none" n st Q (.inl rfl) q
 |one=>intro n st Q hn _ q;obtain⟨n,rfl⟩:∃k,n=k+1:=⟨n-1,⋯⟩;exact leaf "one" n st Q (.inr rfl) q
 |eith a b iha ihb|both a b iha ihb|way a b iha ihb=>
  intro n st Q hn hb q;obtain⟨n,rfl⟩:∃k,n=k+1:=⟨n-1,⋯⟩;simp only[Kd.nest]at hn;exact node _ a b n st Q _ (λQ q=>iha ⋯ hb.1 q) (λQ q=>ihb ⋯ hb.2.1 q) (Kd.bd_le hb.1) (Kd.bd_le hb.2.1) (by first|exact .inl ⟨rfl,rfl⟩|exact .inr (.inl ⟨rfl,rfl⟩)|exact .inr (.inr ⟨rfl,rfl⟩)) q
end
def L1{k:Kd}(h:k.smn):(0<k.cnt/\k.sm)\/(k.cnt=0/\k=.non):=by
 rcases h with rfl|h
 ·exact .inr ⟨rfl,rfl⟩
 ·exact .inl ⟨Kd.gd_pos h.1,h⟩
def J7{k:Kd}(h:k.smn):k.nest<=2:=by
 rcases h with rfl|h
 ·exact Ao _
 ·exact h.2
structure Gr(Γ:List Kd)(k:Kd)(m h d:Nat)(p:Pg):Prop where
 kn:Kn Γ p k
 told:p.kn 3
 pt:p.parts<=m
 hg:p.hgt<=h
 dq:∀i,p.dq i d
theorem v4:∀{k:Kd}{Γ:List Kd},k.gw->Kn Γ k.pl k/\k.pl.kn 3/\k.pl.parts<=k.ms/\k.pl.hgt<=k.nest+2/\k.pl.bd 6
 |.one,Γ,_=>⟨.star,trivial,by show 1<=3;decide,by show 1<=2;decide,trivial⟩
 |.both a b,Γ,h=>by
  obtain⟨x1,x2,x3,x4,x5⟩:=v4 (Γ:=Γ) h.1;obtain⟨y1,y2,y3,y4,y5⟩:=v4 (Γ:=Γ) h.2;exact⟨.pair x1 y1,⟨x2,y2⟩,by simp only[Kd.pl,Pg.parts,Kd.ms];lia,by simp only[Kd.pl,Pg.hgt,Kd.nest];lia,x5,y5⟩
 |.eith a b,Γ,h=>by
  have na:=J7 h.1;unfold Kd.pl
  rcases L1 h.1 with⟨h1,h2⟩|⟨h1,h2⟩
  ·rw[if_pos h1];obtain⟨x1,x2,x3,x4,x5⟩:=v4 (Γ:=Γ) h2.gw;exact⟨.left x1,⟨Cj h.2.2,x2⟩,by simp only[Pg.parts,Kd.ms];lia,by simp only[Pg.hgt,Kd.nest];lia,x5⟩
  ·rw[if_neg ⋯];obtain⟨x1,x2,x3,x4,x5⟩:=v4 (Γ:=Γ) (Kd.sm.gw h.2);exact⟨.right x1,⟨Cj na,x2⟩,by simp only[Pg.parts,Kd.ms];lia,by simp only[Pg.hgt,Kd.nest];lia,x5⟩
 |.way a b,Γ,h=>by
  have na:=J7 h.1;unfold Kd.pl
  rcases L1 h.1 with⟨h1,h2⟩|⟨h1,h2⟩
  ·rw[if_neg ⋯];obtain⟨x1,x2,x3,x4,x5⟩:=v4 (Γ:=a::Γ) h.2.2;have z:=(v4 (Γ:=[]) h.2.2).1.cls;exact⟨.way x1,⟨Cj na,x2⟩,by simp only[Pg.parts,Kd.ms];lia,by simp only[Pg.hgt,Kd.nest];lia,x5,X5 _ z (Ao _)⟩
  ·rw[if_pos h1];subst h2;exact⟨.way (.never (.name rfl)),⟨Ao _,h.2.1 rfl,trivial⟩,by simp only[Pg.parts,Kd.ms];lia,by simp only[Pg.hgt,Kd.nest];lia,trivial,λ_=>∅⟩
def b78{k:Kd}(h:k.gw):k.pl.cls 0:=(v4 (Γ:=[]) h).1.cls
section
variable (T:P52 P G)
include T
theorem J6:∀{k:Kd}{n:Nat}{st:Sto}{Q:DK},k.gw->k.nest+4<=n->Q k.pl.d st->sem P G n "_law_plain" [k.d] st Q
 |.one,n,st,Q,_,hn,q=>by
  obtain⟨n,rfl⟩:∃k,n=k+1:=⟨n-1,⋯⟩;refine f7 T.plain rfl [AA Kd.one.d] rfl ?_;unfold J5;simp only[Kd.d];(iterate 2 ∎);exact b9 q
 |.both a b,n,st,Q,h,hn,q=>by
  obtain⟨n,rfl⟩:∃k,n=k+1:=⟨n-1,⋯⟩;simp only[Kd.nest]at hn;refine f7 T.plain rfl [AA (Kd.both a b).d] rfl ?_;unfold J5;simp only[Kd.d];(iterate 3 ∎);exact⟨by rw[T.plain];rfl,J6 h.1 ⋯ ⟨by rw[T.plain];rfl,J6 h.2 ⋯ (b9 q)⟩⟩
 |.eith a b,n,st,Q,h,hn,q=>by
  obtain⟨n,rfl⟩:∃k,n=k+1:=⟨n-1,⋯⟩;simp only[Kd.nest]at hn;have na:=J7 h.1;unfold Kd.pl at q;refine f7 T.plain rfl [AA (Kd.eith a b).d] rfl ?_;unfold J5;simp only[Kd.d];(iterate 3 ∎);refine⟨by rw[T.many];rfl,P2 T a ⋯ (Kd.few 2 na (AW _)).2 ?_⟩;rfl'
  rcases L1 h.1 with⟨h1,h2⟩|⟨h1,h2⟩
  ·rw[if_pos ⋯];rw[if_pos h1]at q;∎;exact⟨by rw[T.plain];rfl,J6 h2.gw ⋯ (b9 q)⟩
  ·rw[if_neg ⋯];rw[if_neg ⋯]at q;(iterate 2 ∎);exact⟨by rw[T.plain];rfl,J6 (Kd.sm.gw h.2) ⋯ (b9 q)⟩
 |.way a b,n,st,Q,h,hn,q=>by
  obtain⟨n,rfl⟩:∃k,n=k+1:=⟨n-1,⋯⟩;simp only[Kd.nest]at hn;have na:=J7 h.1;unfold Kd.pl at q;refine f7 T.plain rfl [AA (Kd.way a b).d] rfl ?_;unfold J5;simp only[Kd.d];(iterate 5 ∎);refine⟨by rw[T.many];rfl,P2 T a ⋯ (Kd.few 2 na (AW _)).2 ?_⟩;rfl'
  rcases L1 h.1 with⟨h1,h2⟩|⟨h1,h2⟩
  ·rw[if_neg ⋯];rw[if_neg ⋯]at q;∎;exact⟨by rw[T.plain];rfl,J6 h.2.2 ⋯ (b9 q)⟩
  ·rw[if_pos ⋯];rw[if_pos h1]at q;∎;exact b9 q
def ad9(d:Nat):∀{n:Nat}{st:Sto}{Q:DK}{a:AI},d<=2->d+2<=n->l7 st a->(∀(k:Kd)st',k.gd->k.nest<=d+1->k.ms<=8+10*d->l7 st' a->Kp [a] st st'->Q k.d st')->sem P G n "_law_kind" [.ref a,.int d] st Q:=by
 induction d using FB with
 |_ d ih=>
 intro n st Q a hd hn h q;obtain⟨n,rfl⟩:∃k,n=k+2:=⟨n-2,⋯⟩;refine f7 T.kind rfl [AA (.ref a),AA (.int d),AC,AC,AC] rfl ?_;unfold ab7;(iterate 2 ∎);refine⟨by rw[T.next];rfl,λp hp=>?_⟩;obtain⟨m,e,m0,m9,m3⟩:∃m:Int,atI [D.int 3,D.int 9] (if 0<(d:Int)then 1 else 0)=AA (.int m)/\0<m/\m<=9/\(d=0->m=3):=by
  by_cases h0:d=0
  ·rw[if_neg ⋯];exact⟨3,rfl,∅,∅,λ_=>rfl⟩
  ·rw[if_pos ⋯];exact⟨9,rfl,∅,∅,λz=>absurd z h0⟩
 refine⟨_,e,E7 T m0 (h.new hp) λr st1 r0 r1 I1 K1=>?_⟩;have K1:Kp [a] st st1:=(Kp.refl.new hp).trans K1;∎
 by_cases h3:r<3
 ·rw[if_pos h3];∎;intro p2 hp2;have fin:∀k:Kd,k.gd->k.nest<=1->k.ms<=8->(d9 Q).rt k.d (b7 st1 p2 (.lst [Kd.one.d,(Kd.eith .one .one).d,(Kd.eith .one .one).d])):=λk g1 g2 g3=>b9 (q k _ g1 ⋯ ⋯ (I1.new hp2) (K1.new hp2));obtain rfl|rfl|rfl:r=0\/r=1\/r=2:=by lia
  ·exact⟨_,rfl,fin .one trivial ∅ ∅⟩
  ·exact⟨_,rfl,fin (.eith .one .one) ⟨.inr trivial,trivial⟩ ∅ ∅⟩
  ·exact⟨_,rfl,fin (.eith .one .one) ⟨.inr trivial,trivial⟩ ∅ ∅⟩
 rw[if_neg h3];have d0:d≠0:=λz=>by have:=m3 z;lia
 have sub:((d:Int)-1)=((d-1:Nat):Int):=by lia
 ∎
 by_cases h4:r=3
 ·rw[if_pos h4];∎;exact b9 (q (.way .non (.eith .one .one)) _ ⟨.inl rfl,.inr trivial,trivial⟩ (by simp only[Kd.nest];lia) (by simp only[Kd.ms];lia) I1 K1)
 rw[if_neg h4];∎
 by_cases h8:r=8
 ·rw[if_pos h8];∎;rw[sub];exact⟨by rw[T.kind];rfl,ih (d-1) ⋯ ⋯ ⋯ I1 λk st2 g1 g2 g3 I2 K2=>b9 (q (.eith .non k) _ ⟨.inl rfl,g1⟩ (by simp only[Kd.nest];lia) (by simp only[Kd.ms];lia) I2 (K1.trans K2))⟩
 rw[if_neg h8];∎;rw[sub];refine⟨by rw[T.kind];rfl,ih (d-1) ⋯ ⋯ ⋯ I1 λk st2 g1 g2 g3 I2 K2=>?_⟩;∎;intro p2 hp2;obtain⟨w,ew,hw⟩:∃w:String,atI [D.str "either",D.str "both",D.str "way",D.str "both"] (r-4)=AA (.str w)/\∀l:Kd,l.gd->∃c:Kd,c.d=.tup [.str w,k.d,l.d]/\c.gd/\c.nest=1+max k.nest l.nest/\c.ms=2+k.ms+l.ms:=by
  obtain rfl|rfl|rfl|rfl:r=4\/r=5\/r=6\/r=7:=by lia
  ·exact⟨"either",rfl,λl gl=>⟨.eith k l,rfl,⟨.inr g1,gl⟩,rfl,rfl⟩⟩
  ·exact⟨"both",rfl,λl gl=>⟨.both k l,rfl,⟨g1,gl⟩,rfl,rfl⟩⟩
  ·exact⟨"way",rfl,λl gl=>⟨.way k l,rfl,⟨.inr g1,gl⟩,rfl,rfl⟩⟩
  ·exact⟨"both",rfl,λl gl=>⟨.both k l,rfl,⟨g1,gl⟩,rfl,rfl⟩⟩
 refine⟨_,ew,by rw[T.kind];rfl,ih 0 ⋯ ⋯ ⋯ (I2.new hp2) λl st3 l1 l2 l3 I3 K3=>?_⟩;obtain⟨c,ec,c1,c2,c3⟩:=hw l l1;have:=b9 (Q:=Q) (q c st3 c1 ⋯ ⋯ I3 ((K1.trans K2).trans ((Kp.refl.new hp2).trans K3)));rw[ec]at this;exact this
def bn3{ns:List Int}(hl:ns.length<=63)(h:rdS st a (ns.map D.int))(q:∀p st',l7 st' p->Kp [] st st'->Q (.ref p) st'):sem P G (n+1) "_law_deck" [.ref a] st Q:=by
 refine f7 T.deck rfl [AA (.ref a),AC,AC,AC,AC,AC] rfl ?_;unfold w8;∎;intro p hp;have hpa:a≠p:=h.elim (λh=>k9 h hp) (λh=>k9 h hp);have h1:rdS (b7 st p (.lst [])) a (ns.map D.int):=h.elim (λh=>.inl (j6 h hp)) (λh=>.inr (j6 h hp));have keepA:∀{st':Sto}{u:Ob},rdS st' a (ns.map D.int)->rdS (b7 st' p u) a (ns.map D.int):=λh=>h.elim (λh=>.inl (g8 h hpa)) (λh=>.inr (g8 h hpa));have keepK:∀{st':Sto}{u:Ob},Kp [] st st'->Kp [] st (b7 st' p u):=λK b o nb e=>g8 (K b o nb e) (k9 e hp);∎;rw[o0 h1];rfl';rw[AX];have hmin:(if(ns.length:Int)<63 then(ns.length:Int)else 63)=(ns.length:Int):=by split<;>lia
 rw[hmin];have e0:∀z:Int,0<=z % 2147483629/\z % 2147483629<2147483629:=λz=>⟨Ey _ ∅,EF _ ∅⟩;refine⟨⋯,?_⟩;refine A7 (λl env st'=>∃(dk:List Int)(x2 x3 x4 x5:Option D),(∀d∈l,∃i:Nat,d=.int i/\i<ns.length)/\env=[AA (.ref a),AA (.ref p),x2,x3,x4,x5]/\st' p=AA (.lst (dk.map D.int))/\dk.length+60*l.length<=3780/\rdS st' a (ns.map D.int)/\Kp [] st st') ?_ ?_ _ _ _ ⟨[],AC,AC,AC,AC,λd hd=>by simp only[l8,Et,Do]at hd;obtain⟨i,hi,rfl⟩:=hd;exact⟨i,∎,by simpa using hi⟩,rfl,b8,by rw[O7];simp only[Av,CH];lia,h1,Kp.refl.new hp⟩
 ·rintro env st' ⟨dk,x2,x3,x4,x5,el,rfl,hd,hb,hra,K⟩;refine⟨trivial,?_⟩;∎;rw[o0 (.inl hd)];rfl';rw[AX];simp only[Av]at hb;refine⟨⋯,?_⟩;refine A7 (λl env st'=>∃(dk:List Int)(x2 x3 x4 x5:Option D),(∀d∈l,∃i:Int,d=.int i/\0<=i)/\env=[AA (.ref a),AA (.ref p),x2,x3,x4,x5]/\st' p=AA (.lst (dk.map D.int))/\dk.length+l.length<=10000/\rdS st' a (ns.map D.int)/\Kp [] st st') ?_ ?_ _ _ _ ⟨dk,_,_,_,_,λd hd=>by simp only[l8,Et]at hd;obtain⟨i,_,rfl⟩:=hd;exact⟨_,rfl,⋯⟩,rfl,hd,by rw[O7];lia,hra,K⟩
  ·rintro env st' ⟨dk,x2,x3,x4,x5,el,rfl,hd,hb,hra,K⟩;refine⟨trivial,?_⟩;∎;rw[a96 (.inl hd)];intro r hr;obtain⟨ks,ek,_⟩:=bo4 (ns:=dk) (lo:=AC) (hi:=AA 150);rw[ek];exact b9 (q r _ ⟨ks,b8⟩ (K.new hr))
  ·rintro d ds env st' ih ⟨dk,x2,x3,x4,x5,el,rfl,hd,hb,hra,K⟩;obtain⟨i,rfl,hi0⟩:=el d ∎;simp only[AS]at hb;refine⟨trivial,?_⟩;rfl';(iterate 2 ∎);rw[o0 hra];rfl';rw[AX];have fin:∀num:Int,d8 (Zg P G n) (match w8.body.drop 2 with|.cons (.for _ _ b) _=>b.drop 2|_=>.nil) ⟨p0 (λ_=>True) (.n 2) (d8 (Zg P G n) (match w8.body.drop 2 with|.cons (.for _ _ b) _=>b|_=>.nil)) ⟨d8 (Zg P G n) (w8.body.drop 3) (d9 Q),(d9 Q).rt,(d9 Q).bk,(d9 Q).ct⟩ ds,(d9 Q).rt,d8 (Zg P G n) (w8.body.drop 3) (d9 Q),p0 (λ_=>True) (.n 2) (d8 (Zg P G n) (match w8.body.drop 2 with|.cons (.for _ _ b) _=>b|_=>.nil)) ⟨d8 (Zg P G n) (w8.body.drop 3) (d9 Q),(d9 Q).rt,(d9 Q).bk,(d9 Q).ct⟩ ds⟩ [AA (.ref a),AA (.ref p),AA (.int i),x3,x4,AA (.int num)] st':=by
    intro num;simp only[w8,Ss.drop];∎;refine⟨F3 ⟨∅,∅⟩,M5 ⟨∅,∅⟩,∅,?_⟩;∎;refine⟨⟨∅,∅⟩,M5 (by have:=e0 (num*48271+7919*i+13);lia),M5 ⟨∅,∅⟩,∅,?_⟩;∎;rw[u1 (.inl hd)];refine⟨trivial,F3 ⟨∅,∅⟩,∅,∅,?_⟩;rw[z5 hd];refine⟨B7 (by simp only[AX];lia),?_⟩;exact ih _ _ ⟨dk++[_],_,_,_,_,λd hd=>el d (by simp[hd]),rfl,by rw[b8,Al];rfl,by simp only[AU,AS,Av];lia,keepA hra,keepK K⟩
   by_cases h0:(0:Int)<(ns.length:Int)
   ·rw[if_pos h0];∎;rw[o0 hra];rfl';rw[AX,hmin];refine⟨h0,?_⟩;rw[t3 hra];obtain⟨j,hj⟩:=CO (Ey i (show(ns.length:Int)≠0 by lia));have hjl:j<ns.length:=by have:=EF i h0;lia
    rw[hj];refine⟨.int ns[j],by rw[o7,Aw,AM hjl];rfl,?_⟩;rfl';exact⟨∅,fin _⟩
   ·rw[if_neg h0];rfl';exact fin _
 ·rintro d ds env st' ih ⟨dk,x2,x3,x4,x5,el,rfl,hd,hb,hra,K⟩;obtain⟨i,rfl,hi⟩:=el d ∎;simp only[AS]at hb;refine⟨trivial,?_⟩;rfl';∎;rw[t3 hra];refine⟨.int ns[i],by rw[o7,Aw,AM hi];rfl,?_⟩;∎;refine⟨⟨∅,∅,∅⟩,?_⟩;generalize ns[i]=c
  split
  ·∎;refine⟨∅,?_⟩;refine A7 (λl env st'=>∃(dk:List Int)(c:Int)(x4:Option D),env=[AA (.ref a),AA (.ref p),AA (.int i),AA (.int c),x4,x5]/\st' p=AA (.lst (dk.map D.int))/\dk.length+l.length+60*ds.length<=3780/\rdS st' a (ns.map D.int)/\Kp [] st st') ?_ ?_ _ _ _ ⟨dk,c,_,rfl,hd,by rw[O7];have:Int.toNat 60=60:=rfl;lia,hra,K⟩
   ·rintro env st' ⟨dk,c,x4,rfl,hd,hb,hra,K⟩;refine⟨trivial,?_⟩;rfl';exact ih _ _ ⟨dk,_,_,_,_,λd hd=>el d (by simp[hd]),rfl,hd,by simpa using hb,hra,K⟩
   ·rintro d' ds' env st' ih2 ⟨dk,c,x4,rfl,hd,hb,hra,K⟩;simp only[AS]at hb;refine⟨trivial,?_⟩;rfl';∎
    split
    ·∎;rw[u1 (.inl hd)];refine⟨trivial,∅,?_⟩;rw[z5 hd];refine⟨B7 (by simp only[AX];lia),?_⟩;∎;exact⟨⟨∅,∅⟩,ih2 _ _ ⟨dk++[_],_,_,rfl,by rw[b8,Al];rfl,by simp only[AU,AS,Av];lia,keepA hra,keepK K⟩⟩
    ·rfl';exact ih2 _ _ ⟨dk,_,_,rfl,hd,⋯,hra,K⟩
  ·∎;refine⟨∅,F3 ⟨∅,∅⟩,M5 ⟨∅,∅⟩,∅,?_⟩;∎;refine⟨⟨∅,∅⟩,M5 (by have:=e0 (c % 2147483629*48271+7919*i+13);lia),M5 ⟨∅,∅⟩,∅,?_⟩;∎;rw[u1 (.inl hd)];refine⟨trivial,∅,F3 ⟨∅,∅⟩,∅,∅,λp2 hp2=>?_⟩;have hpp:p≠p2:=k9 hd hp2;refine⟨dk.map D.int,_,j6 hd hp2,b8,u8 (by simp only[AX,AS,Av];lia),?_⟩;exact ih _ _ ⟨dk++[_,_],_,_,_,_,λd hd=>el d (by simp[hd]),rfl,by rw[b8,Al];rfl,by simp only[AU,AS,Av];lia,keepA (hra.elim (λh=>.inl (j6 h hp2)) (λh=>.inr (j6 h hp2))),keepK (K.new hp2)⟩
end
section
variable {a b c k:Kd} {t u:Pg} {m1 m2 m3 h h' d d':Nat}
def Gr.mono(g:Gr Γ k m h d t)(h2:m<=m1)(h3:h<=h')(h4:d<=d'):Gr Γ k m1 h' d' t:=⟨g.kn,g.told,Ay g.pt h2,Ay g.hg h3,λi=>P7 _ (g.dq i) h4⟩
theorem Gr.pair(x:Gr Γ a m1 h d t)(y:Gr Γ b m2 h d u):Gr Γ (.both a b) (2+m1+m2) (h+1) (d+1) (.pair t u):=
 ⟨.pair x.kn y.kn,⟨x.told,y.told⟩,by have:=x.pt;have:=y.pt;simp only[Pg.parts];lia,by have:=x.hg;have:=y.hg;simp only[Pg.hgt];lia,λi=>⟨x.dq i,y.dq i⟩⟩
theorem Gr.give(x:Gr Γ (.way a b) m1 h d t)(y:Gr Γ a m2 h d u):Gr Γ b (2+m1+m2) (h+1) (d+1) (.give t u):=
 ⟨.give x.kn y.kn,⟨x.told,y.told⟩,by have:=x.pt;have:=y.pt;simp only[Pg.parts];lia,by have:=x.hg;have:=y.hg;simp only[Pg.hgt];lia,λi=>⟨x.dq i,y.dq i⟩⟩
theorem Gr.lets(x:Gr Γ a m1 h d t)(y:Gr (a::Γ) b m2 h d u):Gr Γ b (2+m1+m2) (h+1) (d+1) (.lets t u):=
 ⟨.lets x.kn y.kn,⟨x.told,y.told⟩,by have:=x.pt;have:=y.pt;simp only[Pg.parts];lia,by have:=x.hg;have:=y.hg;simp only[Pg.hgt];lia,λi=>⟨x.dq i,y.dq (i+1)⟩⟩
theorem Gr.case(x:Gr Γ (.eith a b) m1 h d t)(y:Gr (a::Γ) c m2 h d u)(z:Gr (b::Γ) c m3 h d v):Gr Γ c (2+m1+m2+m3) (h+1) (d+1) (.case t u v):=
 ⟨.case x.kn y.kn z.kn,⟨x.told,y.told,z.told⟩,by have:=x.pt;have:=y.pt;have:=z.pt;simp only[Pg.parts];lia,by have:=x.hg;have:=y.hg;have:=z.hg;simp only[Pg.hgt];lia,λi=>⟨x.dq i,y.dq (i+1),z.dq (i+1)⟩⟩
theorem Gr.first(x:Gr Γ (.both a b) m h d t):Gr Γ a (2+m) (h+1) (d+1) (.first t):=⟨.first x.kn,x.told,by have:=x.pt;simp only[Pg.parts];lia,by have:=x.hg;simp only[Pg.hgt];lia,x.dq⟩
theorem Gr.second(x:Gr Γ (.both a b) m h d t):Gr Γ b (2+m) (h+1) (d+1) (.second t):=⟨.second x.kn,x.told,by have:=x.pt;simp only[Pg.parts];lia,by have:=x.hg;simp only[Pg.hgt];lia,x.dq⟩
theorem Gr.left(x:Gr Γ a m h d t)(hb:b.nest<=3):Gr Γ (.eith a b) (2+b.ms+m) (h+1) (d+1) (.left b t):=⟨.left x.kn,⟨hb,x.told⟩,by have:=x.pt;simp only[Pg.parts];lia,by have:=x.hg;simp only[Pg.hgt];lia,x.dq⟩
theorem Gr.right(x:Gr Γ b m h d t)(ha:a.nest<=3):Gr Γ (.eith a b) (2+a.ms+m) (h+1) (d+1) (.right a t):=⟨.right x.kn,⟨ha,x.told⟩,by have:=x.pt;simp only[Pg.parts];lia,by have:=x.hg;simp only[Pg.hgt];lia,x.dq⟩
theorem Gr.way(x:Gr (a::Γ) b m h d t)(ha:a.nest<=3):Gr Γ (.way a b) (2+a.ms+m) (h+1) (d+1) (.way a t):=⟨.way x.kn,⟨ha,x.told⟩,by have:=x.pt;simp only[Pg.parts];lia,by have:=x.hg;simp only[Pg.hgt];lia,λi=>x.dq (i+1)⟩
def Gr.wn{b:Kd}(hb:b.nest<=3):Gr Γ (.way .non b) (2+7+(2+b.ms+3)) 3 0 (.way .non (.never b (.name 0))):=
 ⟨.way (.never (.name rfl)),⟨Ao _,hb,trivial⟩,by simp only[Pg.parts];lia,AW _,λi=>X5 (w:=0) _ (by show 0<0+1;decide) (Ao _)⟩
theorem Gr.star:Gr Γ .one 2 1 0 .star:=⟨.star,trivial,by show 1<=2;decide,AW _,λ_=>trivial⟩
theorem Gr.name(e:Γ[n]?=AA k):Gr Γ k 3 1 1 (.name n):=⟨.name e,trivial,by show 1<=3;decide,AW _,λ_ _=>AW _⟩
end
abbrev Bb(r:Nat)(k:Kd)(p:Pg):Prop:=p.bd 6\/(8<r/\p.isV=AB/\∀a b,k≠.both a b)
def Bb.low{k:Kd}{p:Pg}(h:Bb r k p)(hr:r<=8):p.bd 6:=h.elim id (λz=>⋯)
theorem Bb.both{a b:Kd}{p:Pg}(h:Bb r (.both a b) p):p.bd 6:=h.elim id (λz=>absurd rfl (z.2.2 a b))
abbrev Tr(r m:Nat):Nat:=if r<3 then m else if r<10 then 2*m+42*(r-2)else 4*m+(82*r-484)
structure Ask(k:Kd)(Γ:List Kd)(r:Nat):Prop where
 gw:k.gw
 nest:k.nest+r<=19
 all:∀l∈Γ,l.nest<=3
 len:Γ.length+r<=40
abbrev Y3(P:f6)(G:Gs)(r:Nat):Prop:=∀{n:Nat}{st:Sto}{Q:DK}{a:AI}{k:Kd}{Γ:List Kd},3*r+30<=n->Ask k Γ r->l7 st a->(∀(p:Pg)st',Gr Γ k (Tr r k.ms) (21+r) (max 1 (r-1)) p->Bb r k p->l7 st' a->Kp [a] st st'->Q p.d st')->sem P G n "_law_term" [.ref a,k.d,.tup (Γ.map Kd.d),.int r] st Q
section
variable (T:P52 P G) {da:AI} 
include T
def bm0(h3:3<=r)(h16:r<=16)(ih:∀s,s<r->Y3 P G s):∀{k:Kd},3*r+29<=n->Ask k Γ r->l7 st da->(∀(p:Pg)st',Gr Γ k (Tr r k.ms) (21+r) (max 1 (r-1)) p->Bb r k p->l7 st' da->Kp [da] st st'->Q p.d st')->sem P G n "_law_made" [.ref da,k.d,.tup (Γ.map Kd.d),.int r] st Q:=by
 intro k hn A I q;obtain⟨n,rfl⟩:∃k,n=k+1:=⟨n-1,⋯⟩;have len:=A.len;have nst:=A.nest;have sub:((r:Int)-1)=((r-1:Nat):Int):=by lia
 have hlf:((r:Int) / 2)=((r / 2:Nat):Int):=by lia
 refine f7 T.made rfl [AA (.ref da),AA k.d,AA (.tup (Γ.map Kd.d)),AA (.int r),AC] rfl ?_;unfold ab2;cases k with
 |non=>exact A.gw.elim
 |one=>
  simp only[Kd.d];(iterate 2 ∎);exact b9 (q .star _ (Gr.star.mono (by simp only[Tr,Kd.ms];(repeat' split)<;>lia) ⋯ ⋯) (.inl trivial) I Kp.refl)
 |both a b=>
  simp only[Kd.nest]at nst;simp only[Kd.d];(iterate 3 ∎);rw[hlf];refine⟨by rw[T.term];rfl,⟨∅,∅⟩,ih (r / 2) ⋯ ⋯ ⟨A.gw.1,⋯,A.all,⋯⟩ I λt s1 g1 b1 I1 K1=>?_⟩;∎;rw[hlf];refine⟨by rw[T.term];rfl,⟨∅,∅⟩,ih (r / 2) ⋯ ⋯ ⟨A.gw.2,⋯,A.all,⋯⟩ I1 λu s2 g2 b2 I2 K2=>?_⟩;exact b9 (q (.pair t u) _ ((g1.pair g2).mono (by simp only[Tr,Kd.ms];(repeat' split)<;>lia) ⋯ ⋯) (.inl ⟨b1.low ⋯,b2.low ⋯⟩) I2 (K1.trans K2))
 |way a b=>
  simp only[Kd.nest]at nst;simp only[Kd.d];have na:=J7 A.gw.1;have hg:=A.gw.2.2;(iterate 3 ∎);refine⟨by rw[T.many];rfl,P2 T a ⋯ (Kd.few 2 na (AW _)).2 ?_⟩;rfl'
  rcases L1 A.gw.1 with⟨h1,h2⟩|⟨h1,h2⟩
  ·rw[if_pos ⋯];∎;rw[sub];refine⟨by rw[T.term];rfl,u8 (by simp only[AX,AS,Av];lia),ih (r-1) ⋯ ⋯ (Γ:=a::Γ) ⟨hg,⋯,λl hl=>?_,by simp only[AS];lia⟩ I λt s1 g1 b1 I1 K1=>?_⟩
   ·rcases Ae.mp hl with rfl|hl
    ·lia
    ·exact A.all l hl
   exact b9 (q (.way a t) _ ((g1.way ⋯).mono (by simp only[Tr,Kd.ms];(repeat' split)<;>lia) ⋯ ⋯) (if h8:r<=8 then .inl ⟨b1.low ⋯,P7 _ (g1.dq 0) ⋯⟩else .inr ⟨⋯,rfl,nofun⟩) I1 K1)
  ·rw[if_neg ⋯];(iterate 2 ∎);subst h2;have hb:=A.gw.2.1 rfl;exact b9 (q (.way .non (.never b (.name 0))) _ ((Gr.wn hb).mono (by simp only[Tr,Kd.ms];(repeat' split)<;>lia) ⋯ ⋯) (.inl ⟨trivial,λ_=>∅⟩) I Kp.refl)
 |eith a b=>
  simp only[Kd.nest]at nst;simp only[Kd.d];have na:=J7 A.gw.1;have nb:=A.gw.2.2;have hb:=Kd.gd_pos A.gw.2.1;have lft:∀(st1:Sto),a.sm->l7 st1 da->Kp [da] st st1->d8 (Zg P G n) (.cons (.ret (.tup (.cons (.str "left") (.cons (.ix (.v 1) (.int 2)) (.cons (.call "_law_term" (.cons (.v 0) (.cons (.ix (.v 1) (.int 1)) (.cons (.v 2) (.cons (.bin .Sub (.v 3) (.int 1)) .nil))))) .nil))))) .nil) (d9 Q) [AA (.ref da),AA (.tup [.str "either",a.d,b.d]),AA (.tup (Γ.map Kd.d)),AA (.int r),AC] st1:=by
   intro st1 h2 I1 K1;∎;rw[sub];refine⟨by rw[T.term];rfl,ih (r-1) ⋯ ⋯ ⟨h2.gw,⋯,A.all,⋯⟩ I1 λt s1 g1 b1 I1 K2=>?_⟩;exact b9 (q (.left b t) _ ((g1.left ⋯).mono (by simp only[Tr,Kd.ms];(repeat' split)<;>lia) ⋯ ⋯) (if h8:r<=8 then .inl (b1.low ⋯)else .inr ⟨⋯,rfl,nofun⟩) I1 (K1.trans K2))
  have rgt:∀(st1:Sto),l7 st1 da->Kp [da] st st1->d8 (Zg P G n) (.cons (.ret (.tup (.cons (.str "right") (.cons (.ix (.v 1) (.int 1)) (.cons (.call "_law_term" (.cons (.v 0) (.cons (.ix (.v 1) (.int 2)) (.cons (.v 2) (.cons (.bin .Sub (.v 3) (.int 1)) .nil))))) .nil))))) .nil) (d9 Q) [AA (.ref da),AA (.tup [.str "either",a.d,b.d]),AA (.tup (Γ.map Kd.d)),AA (.int r),AC] st1:=by
   intro st1 I1 K1;∎;rw[sub];refine⟨by rw[T.term];rfl,ih (r-1) ⋯ ⋯ ⟨Kd.sm.gw A.gw.2,⋯,A.all,⋯⟩ I1 λt s1 g1 b1 I1 K2=>?_⟩;exact b9 (q (.right a t) _ ((g1.right ⋯).mono (by simp only[Tr,Kd.ms];(repeat' split)<;>lia) ⋯ ⋯) (if h8:r<=8 then .inl (b1.low ⋯)else .inr ⟨⋯,rfl,nofun⟩) I1 (K1.trans K2))
  (iterate 5 ∎);refine⟨by rw[T.many];rfl,P2 T b ⋯ (Kd.few 2 nb (AW _)).2 ?_⟩;rfl';rw[if_neg ⋯];refine⟨by rw[T.many];rfl,P2 T a ⋯ (Kd.few 2 na (AW _)).2 ?_⟩;rfl'
  rcases L1 A.gw.1 with⟨h1,h2⟩|⟨h1,h2⟩
  ·rw[if_pos ⋯];obtain⟨n,rfl⟩:∃k,n=k+1:=⟨n-1,⋯⟩;refine⟨by rw[T.next];rfl,E7 T ∅ I λx s1 x0 x1 I1 K1=>?_⟩;rfl'
   by_cases hx:x=0
   ·rw[if_pos hx];exact lft s1 h2 I1 K1
   ·rw[if_neg hx];rfl';exact rgt s1 I1 K1
  ·rw[if_neg ⋯];rfl';exact rgt st I Kp.refl
end
theorem a95:∀k:Kd,3<=k.ms
 |.non|.one=>by decide
 |.eith a b|.both a b|.way a b=>by have:=a95 a;simp only[Kd.ms];lia
def Ask.cons{k a:Kd}{s:Nat}(A:Ask k Γ r)(ha:a.nest<=3)(hs:s<r):Ask k (a::Γ) s:=
 ⟨A.gw,by have:=A.nest;lia,λl hl=>by
  rcases Ae.mp hl with rfl|hl
  ·exact ha
  ·exact A.all l hl,by have:=A.len;simp only[AS];lia⟩
def Ask.sub{k l:Kd}{s:Nat}(A:Ask k Γ r)(g:l.gw)(hn:l.nest+s<=19)(hs:s<=r):Ask l Γ s:=⟨g,hn,A.all,by have:=A.len;lia⟩
section
variable (T:P52 P G) {da:AI} 
include T
def bi8(h3:3<=r)(h16:r<=16)(ih:∀s,s<r->Y3 P G s){k:Kd}(hn:3*r+29<=n)(A:Ask k Γ r)(I:l7 st da)(q:∀(p:Pg)st',Gr Γ k (Tr r k.ms) (21+r) (max 1 (r-1)) p->Bb r k p->l7 st' da->Kp [da] st st'->Q p.d st'):sem P G n "_law_taken" [.ref da,k.d,.tup (Γ.map Kd.d),.int r] st Q:=by
 obtain⟨n,rfl⟩:∃k,n=k+2:=⟨n-2,⋯⟩;have len:=A.len;have nst:=A.nest;have sub:((r:Int)-1)=((r-1:Nat):Int):=by lia
 have hlf:(((r-1:Nat):Int) / 2)=(((r-1) / 2:Nat):Int):=by lia
 have thr:(((r-1:Nat):Int) / 3)=(((r-1) / 3:Nat):Int):=by lia
 have szl:∀x:Kd,[x.d].length+(Γ.map Kd.d).length<=sizeLine:=λx=>u8 (by simp only[AX,AS,Av];lia);refine f7 T.taken rfl [AA (.ref da),AA k.d,AA (.tup (Γ.map Kd.d)),AA (.int r),AC,AC,AC,AC,AC,AC,AC] rfl ?_;unfold aa7;∎;refine⟨by rw[T.next];rfl,E7 T ∅ I λx s1 x0 x5 I1 K1=>?_⟩;∎;obtain⟨d,ed,hd1⟩:∃d:Nat,((1:Int)-if(r:Int)<6 then 1 else 0)=(d:Int)/\d<=1:=by
  split
  ·exact⟨0,rfl,∅⟩
  ·exact⟨1,rfl,∅⟩
 rw[ed];refine⟨by rw[T.kind];rfl,ad9 T d ⋯ ⋯ I1 λm s2 g1 g2 g3 I2 K2=>?_⟩;have sm:m.sm:=⟨g1,⋯⟩;have K2:=K1.trans K2;∎;rw[sub,hlf];refine⟨⟨∅,∅⟩,?_⟩;∎
 by_cases h0:x=0
 ·rw[if_pos h0];∎;rw[sub];refine⟨by rw[T.term];rfl,ih (r-1) ⋯ ⋯ (k:=.both k m) (A.sub ⟨A.gw,sm.gw⟩ (by simp only[Kd.nest];lia) ⋯) I2 λt s3 g b3 I3 K3=>?_⟩;exact b9 (q (.first t) _ (g.first.mono (by simp only[Tr,Kd.ms];(repeat' split)<;>lia) ⋯ ⋯) (.inl b3.both) I3 (K2.trans K3))
 rw[if_neg h0];∎
 by_cases h1:x=1
 ·rw[if_pos h1];∎;rw[sub];refine⟨by rw[T.term];rfl,ih (r-1) ⋯ ⋯ (k:=.both m k) (A.sub ⟨sm.gw,A.gw⟩ (by simp only[Kd.nest];lia) ⋯) I2 λt s3 g b3 I3 K3=>?_⟩;exact b9 (q (.second t) _ (g.second.mono (by simp only[Tr,Kd.ms];(repeat' split)<;>lia) ⋯ ⋯) (.inl b3.both) I3 (K2.trans K3))
 rw[if_neg h1];∎
 by_cases h2:x=2
 ·rw[if_pos h2];∎;refine⟨by rw[T.term];rfl,ih ((r-1) / 2) ⋯ ⋯ (k:=.way m k) (A.sub ⟨.inr sm,λz=>by rw[z]at g1;exact g1.elim,A.gw⟩ (by simp only[Kd.nest];lia) ⋯) I2 λt s3 gt bt I3 K3=>?_⟩;∎;refine⟨by rw[T.term];rfl,ih ((r-1) / 2) ⋯ ⋯ (A.sub sm.gw ⋯ ⋯) I3 λu s4 gu bu I4 K4=>?_⟩;exact b9 (q (.give t u) _ ((gt.give gu).mono (by simp only[Tr,Kd.ms];(repeat' split)<;>lia) ⋯ ⋯) (.inl ⟨bt.low ⋯,bu.low ⋯⟩) I4 ((K2.trans K3).trans K4))
 rw[if_neg h2];∎
 by_cases h3':x=3
 ·rw[if_pos h3'];∎;refine⟨by rw[T.term];rfl,ih ((r-1) / 2) ⋯ ⋯ (A.sub sm.gw ⋯ ⋯) I2 λt s3 gt bt I3 K3=>?_⟩;∎;refine⟨by rw[T.term];rfl,szl m,ih ((r-1) / 2) ⋯ ⋯ (Γ:=m::Γ) (A.cons ⋯ ⋯) I3 λu s4 gu bu I4 K4=>?_⟩;exact b9 (q (.lets t u) _ ((gt.lets gu).mono (by simp only[Tr,Kd.ms];(repeat' split)<;>lia) ⋯ ⋯) (.inl ⟨bt.low ⋯,bu.low ⋯,P7 _ (gu.dq 0) ⋯⟩) I4 ((K2.trans K3).trans K4))
 rw[if_neg h3'];∎;refine⟨by rw[T.kind];rfl,ad9 T 0 ⋯ ⋯ I2 λl s3 l1 l2 l3 I3 K3=>?_⟩;∎;rw[sub,thr];refine⟨⟨∅,∅⟩,?_⟩;∎;refine⟨by rw[T.term];rfl,ih ((r-1) / 3) ⋯ ⋯ (k:=.eith m l) (A.sub ⟨.inr sm,l1,⋯⟩ (by simp only[Kd.nest];lia) ⋯) I3 λt s4 gt bt I4 K4=>?_⟩;∎;refine⟨by rw[T.term];rfl,szl m,ih ((r-1) / 3) ⋯ ⋯ (Γ:=m::Γ) (A.cons ⋯ ⋯) I4 λu s5 gu bu I5 K5=>?_⟩;∎;refine⟨by rw[T.term];rfl,szl l,ih ((r-1) / 3) ⋯ ⋯ (Γ:=l::Γ) (A.cons ⋯ ⋯) I5 λv s6 gv bv I6 K6=>?_⟩;exact b9 (q (.case t u v) _ ((gt.case gu gv).mono (by simp only[Tr,Kd.ms];(repeat' split)<;>lia) ⋯ ⋯) (.inl ⟨bt.low ⋯,⟨bu.low ⋯,P7 _ (gu.dq 0) ⋯⟩,bv.low ⋯,P7 _ (gv.dq 0) ⋯⟩) I6 ((((K2.trans K3).trans K4).trans K5).trans K6))
def bm1(r:Nat)(h16:r<=16):Y3 P G r:=by
 induction r using FB with
 |_ r ih=>
 intro n st Q da k Γ hn A I q;have ih:∀s,s<r->Y3 P G s:=λs hs=>ih s hs ⋯;obtain⟨n,rfl⟩:∃k,n=k+2:=⟨n-2,⋯⟩;have len:=A.len;have nst:=A.nest;refine f7 T.term rfl [AA (.ref da),AA k.d,AA (.tup (Γ.map Kd.d)),AA (.int r),AC,AC] rfl ?_;unfold O6;∎;simp only[AX];refine⟨⟨⋯,⋯⟩,by rw[O7];lia,?_⟩;refine D0 (λl acc env st'=>st'=st/\(∀d∈l,∃i:Nat,d=.int i/\i<Γ.length)/\∃(js:List Nat)(x:Option D),acc=js.map (λj:Nat=>D.int j)/\(∀j∈js,Γ[j]?=AA k)/\env=[AA k.d,AA (.tup (Γ.map Kd.d)),x]/\js.length+l.length<=40) ?_ ?_ _ _ _ _ ⟨rfl,λd hd=>by simp only[l8,Et,Do]at hd;obtain⟨i,hi,rfl⟩:=hd;exact⟨i,∎,by simpa using hi⟩,[],AC,rfl,nofun,rfl,by rw[O7];simp only[Av,CH];lia⟩
 ·rintro acc env st' ⟨rfl,_,js,x,rfl,hj,_,hl⟩;refine⟨trivial,λp hp=>?_⟩;simp only[Av]at hl;∎;refine⟨by rw[T.next];rfl,E7 T ∅ (I.new hp) λx s1 x0 x4 I1 K1=>?_⟩;have hp1:s1 p=AA (.lst (js.map λj:Nat=>D.int j)):=K1.at' b8 (by simpa using(I.ne hp).symm);have K1:Kp [da] st' s1:=(Kp.refl.new hp).trans K1;∎;rw[o0 (.inl hp1)];rfl';rw[AX];have d7:d8 (Zg P G (n+1)) (O6.body.drop 3) (d9 Q) [AA (.ref da),AA k.d,AA (.tup (Γ.map Kd.d)),AA (.int r),AA (.ref p),AA (.int x)] s1:=by
   simp only[O6,Ss.drop];∎
   by_cases h3:r<3
   ·rw[if_pos ⋯];∎;exact⟨by rw[T.plain];rfl,J6 T A.gw ⋯ (b9 (q _ _ ⟨(v4 A.gw).1,(v4 (Γ:=Γ) A.gw).2.1,Ay (v4 (Γ:=Γ) A.gw).2.2.1 (by simp only[Tr,Kd.ms];(repeat' split)<;>lia),Ay (v4 (Γ:=Γ) A.gw).2.2.2.1 ⋯,λi=>X5 _ (b78 A.gw) (Ao _)⟩ (.inl (v4 (Γ:=Γ) A.gw).2.2.2.2) I1 K1))⟩
   ·rw[if_neg ⋯];∎
    by_cases hx:x=3
    ·rw[if_pos hx];∎;exact⟨by rw[T.taken];rfl,bi8 T ⋯ h16 ih ⋯ A I1 λp s2 g b2 I2 K2=>b9 (q p s2 g b2 I2 (K1.trans K2))⟩
    ·rw[if_neg hx];∎;exact⟨by rw[T.made];rfl,bm0 T ⋯ h16 ih ⋯ A I1 λp s2 g b2 I2 K2=>b9 (q p s2 g b2 I2 (K1.trans K2))⟩
  have nam:0<js.length->d8 (Zg P G (n+1)) (.cons (.ret (.tup (.cons (.str "name") (.cons (.ix (.v 4) (.call "_law_next" (.cons (.v 0) (.cons (.len (.v 4)) .nil)))) .nil)))) .nil) (d9 Q) [AA (.ref da),AA k.d,AA (.tup (Γ.map Kd.d)),AA (.int r),AA (.ref p),AA (.int x)] s1:=by
   intro h0;∎;rw[o0 (.inl hp1)];rfl';rw[AX];refine⟨by rw[T.next];rfl,E7 T ⋯ I1 λy s2 y0 y1 I2 K2=>?_⟩;have hp2:s2 p=AA (.lst (js.map λj:Nat=>D.int j)):=K2.at' hp1 (by simpa using(I.ne hp).symm);rw[t3 (.inl hp2)];obtain⟨j,rfl⟩:=CO y0;have hjl:j<js.length:=by lia
   refine⟨.int js[j],by rw[o7,Aw,AM hjl];rfl,b9 (q (.name js[j]) _ ((Gr.name (hj _ (ED hjl))).mono ?_ ⋯ ⋯) (.inl trivial) I2 (K1.trans K2))⟩;have:=a95 k;simp only[Tr];(repeat' split)<;>lia
  by_cases h0:0<js.length
  ·rw[if_pos ⋯]
   by_cases h2:x<2
   ·rw[if_pos h2];exact nam h0
   ·rw[if_neg h2]
    by_cases h3:r<3
    ·rw[if_pos ⋯];exact nam h0
    ·rw[if_neg ⋯];rfl';exact d7
  ·rw[if_neg ⋯];rfl';exact d7
 ·rintro d ds acc env st' ih2 ⟨rfl,hd,js,x,rfl,hj,rfl,hl⟩;obtain⟨i,rfl,hi⟩:=hd d ∎;simp only[AS]at hl;refine⟨trivial,?_⟩;rfl';refine⟨Γ[i].d,by rw[o7,Aw,AM hi];rfl,?_⟩;rw[a78];refine⟨A6 _,A6 _,?_,?_⟩
  ·have:=A.all _ (ED hi);exact Ay (Gd _ _) (by rw[v8];lia)
  rw[P9]
  by_cases e:Γ[i]=k
  ·simp only[e,decide_true,ak5,if_true];exact ih2 _ _ _ ⟨rfl,λd h=>hd d (by simp[h]),js++[i],_,∎,λj hj'=>by
    rcases BR.mp hj' with z|z
    ·exact hj j z
    ·rw[BQ.mp z,AM hi,e],rfl,by simp only[AU,AS,Av];lia⟩
  ·simp only[e,decide_false,ak5,if_false,BD];exact ih2 _ _ _ ⟨rfl,λd h=>hd d (by simp[h]),js,_,rfl,hj,rfl,⋯⟩
end
abbrev Pg.w:Pg->String
 |.name _=>"name"|.star=>"star"|.pair _ _=>"pair"|.first _=>"first"|.second _=>"second"|.left _ _=>"left"|.right _ _=>"right"
 |.case _ _ _=>"case"|.way _ _=>"way"|.give _ _=>"give"|.lets _ _=>"let"|.never _ _=>"never"
abbrev Pg.frt:Pg->List D
 |.name n=>[.int n]|.left b _=>[b.d]|.right b _=>[b.d]|.way b _=>[b.d]|.never b _=>[b.d]|_=>[]
def Pg.d_w(p:Pg)(u:Nat):p.d=.tup (.str p.w::(p.frt++(p.kidsU u).map λc=>c.1.d)):=by cases p<;>rfl
def Pg.mp_w{p:Pg}(u:Nat)(h:p.w≠"name"):(p.mp f u).d=.tup (.str p.w::(p.frt++(p.kidsU u).map λc=>(c.1.mp f c.2).d)):=by cases p<;>first|rfl|exact absurd rfl h
@[reducible]noncomputable def isW(w:String)(l:List D):Prop:=(l.any λy=>deq y (.str w))=AB
abbrev ak6(w:String):List (Nat×Nat):=
 if isW w [.str "name",.str "star"]then []else if isW w [.str "pair",.str "give"]then [(1,0),(2,0)]else if isW w [.str "first",.str "second"]then [(1,0)]
 else if isW w [.str "left",.str "right",.str "never"]then [(2,0)]else if w="way" then [(2,1)]else if w="let" then [(1,0),(2,1)]else [(1,0),(2,1),(3,1)]
@[reducible]noncomputable def ak7(x:Nat×Nat):D:=.tup [.int x.1,.int x.2]
def b99(p:Pg)(u:Nat):ak6 p.w=(p.kidsU u).mapIdx λi c=>(1+p.frt.length+i,c.2-u):=by
 cases p<;>simp[Pg.kidsU,Pg.kids,Pg.more,Pg.frt,Br,BW,Pg.w]<;>decide
section
variable (T:P52 P G) 
include T
def bh4{w:String}{tl:List D}(q:∀a,st a=AC->Q (.ref a) (b7 st a (.lst ((ak6 w).map ak7)))):sem P G (n+1) "_law_under" [.tup (.str w::tl)] st Q:=by
 have pu:∀l:List String,D.pures (l.map λx=>D.str (AZ x))=AB:=λl=>by
  induction l with
  |nil=>rfl
  |cons x l ih=>rw[An,u4,g9,ih];rfl
 unfold ak6 at q;refine f7 T.under rfl [AA (.tup (.str w::tl)),AC] rfl ?_;unfold aa8;(iterate 2 ∎);refine⟨g9 _,pu ["name","star"],Ao _,?_⟩
 by_cases h1:isW w [.str "name",.str "star"]
 ·rw[if_pos h1]at q ⊢;∎;exact λa ha=>b9 (q a ha)
 rw[if_neg h1]at q ⊢;∎;refine⟨g9 _,pu ["pair","give"],Ao _,?_⟩
 by_cases h2:isW w [.str "pair",.str "give"]
 ·rw[if_pos h2]at q ⊢;∎;exact λa ha=>b9 (q a ha)
 rw[if_neg h2]at q ⊢;∎;refine⟨g9 _,pu ["first","second"],Ao _,?_⟩
 by_cases h3:isW w [.str "first",.str "second"]
 ·rw[if_pos h3]at q ⊢;∎;exact λa ha=>b9 (q a ha)
 rw[if_neg h3]at q ⊢;∎;refine⟨g9 _,pu ["left","right","never"],Ao _,?_⟩
 by_cases h4:isW w [.str "left",.str "right",.str "never"]
 ·rw[if_pos h4]at q ⊢;∎;exact λa ha=>b9 (q a ha)
 rw[if_neg h4]at q ⊢;∎
 by_cases h5:w="way"
 ·rw[if_pos h5]at q ⊢;∎;exact λa ha=>b9 (q a ha)
 rw[if_neg h5]at q ⊢;∎
 by_cases h6:w="let"
 ·rw[if_pos h6]at q ⊢;∎;exact λa ha=>b9 (q a ha)
 rw[if_neg h6]at q ⊢;∎;exact λa ha=>b9 (q a ha)
end
def Pg.w_name{p:Pg}(h:p.w="name"):∃n,p=.name n:=by cases p<;>simp[Pg.w]at h ⊢
def Pg.hgt_lt(p:Pg)(u:Nat):∀c∈p.kidsU u,c.1.hgt<p.hgt/\u<=c.2:=by
 cases p<;>simp[Pg.hgt,Pg.kidsU,Pg.kids,Pg.more,Br,BW]<;>lia
@[reducible]noncomputable def lpB(F:Str):Ss:=.cons (.set 3 (.list (.v 0))) (.cons (.for (.tup [4,5]) (.seq (.call "_law_under" (.cons (.v 0) .nil))) (.cons (.put (.v 3) (.v 4) (.call F (.cons (.ix (.v 0) (.v 4)) (.cons (.v 1) (.cons (.bin .Add (.v 2) (.v 5)) .nil))))) .nil)) (.cons (.ret (.tuple (.v 3))) .nil))
section
variable (T:P52 P G) 
include T
def au4{F:Str}(hF:(P F).isSome=AB){p:Pg}{x:D}{y:Int}(hw:p.w≠"name")
  (hc:∀c∈p.kidsU u,∀(st:Sto)(Q:DK),(∀st',Kp [] st st'->Q (c.1.mp f c.2).d st')->sem P G (n+1) F [c.1.d,x,.int (y+((c.2-u:Nat):Int))] st Q) (q:∀st',Kp [] st st'->Q (p.mp f u).d st') :
  d8 (Zg P G (n+1)) (lpB F) (d9 Q) [AA p.d,AA x,AA (.int y),AC,AC,AC] st:=by
 rw[Pg.mp_w u hw]at q;rw[Pg.d_w p u];generalize hk:p.kidsU u=ks at hc q;have hu:=b99 p u;rw[hk]at hu;∎;intro h hh;∎;refine⟨by rw[T.under];rfl,bh4 T λa ha=>?_⟩;rw[hu];rfl';have hah:h≠a:=k9 b8 ha;refine⟨_,.inl b8,?_⟩;generalize hL:List.map ak7 (Br (λi c=>(1+p.frt.length+i,c.2-u)) ks)=L;have lL:L.length=ks.length:=by rw[<-hL];simp
 have gL:∀(i:Nat)(hi:i<ks.length),L[i]?=AA (ak7 (1+p.frt.length+i,ks[i].2-u)):=λi hi=>by rw[<-hL];simp[hi]
 have keepH:∀{st':Sto}{v:Ob},rdS st' a L->rdS (b7 st' h v) a L:=λr=>r.elim (λr=>.inl (g8 r hah.symm)) (λr=>.inr (g8 r hah.symm));refine A7 (λl env st'=>∃(i:Nat)(x4 x5:Option D),i<=ks.length/\l=L.drop i/\env=[AA (.tup (.str p.w::(p.frt++ks.map λc=>c.1.d))),AA x,AA (.int y),AA (.ref h),x4,x5]/\st' h=AA (.lst ((.str p.w::p.frt)++((ks.take i).map (λc=>(c.1.mp f c.2).d)++(ks.drop i).map λc=>c.1.d)))/\rdS st' a L/\Kp [] st st') ?_ ?_ _ _ _ ⟨0,AC,AC,Ao _,rfl,rfl,j6 b8 ha,.inl b8,(Kp.refl.new hh).new ha⟩
 ·rintro env st' ⟨i,x4,x5,hi,el,rfl,h1,h2,K⟩;have e:i=ks.length:=by have:=congrArg Dl el;rw[CB]at this;simp only[Av]at this;lia
  subst e;refine⟨h2,?_⟩;∎;refine⟨_,.inl h1,b9 ?_⟩;have:=q st' K;simpa using this
 ·rintro d ds env st' ih ⟨i,x4,x5,hi,el,rfl,h1,h2,K⟩;refine⟨h2,?_⟩;have hi':i<ks.length:=by
   have:=congrArg Dl el;rw[CB,AS]at this;lia
  rw[Cu ⋯]at el;obtain⟨rfl,rfl⟩:=IW el;have g:=gL i hi';rw[AM ⋯]at g;rw[Ag g];rfl';∎;refine⟨hF,ks[i].1.d,?_,hc ks[i] (ED hi') st' _ λs2 K2=>?_⟩
  ·rw[o7,<-El,Ad (by simp only[AS];lia),Aw];rw[show 1+p.frt.length+i-(D.str p.w::p.frt).length=i by simp only[AS];lia,AM hi'];rfl
  have h3:=K2.at' h1 ∎;rfl';refine⟨h,_,1+p.frt.length+i,_,rfl,rfl,h3,?_,?_⟩
  ·simp only[AU,AS,AX,Bt,CB];unfold ixN;rw[if_pos ⋯,if_pos ⋯,CH]
  refine ih _ _ ⟨i+1,_,_,hi',rfl,rfl,?_,?_,λb o nb e=>g8 (K2.at' (K.at' e ∎) ∎) (k9 e hh)⟩
  ·rw[b8]
   congr 2
   rw[Hx _ _ (by simp only[AS];lia),Hx _ _ (by simp only[AS,AX,Bt];lia)];rw[Cu hi',An,show 1+p.frt.length+i-(D.str p.w::p.frt).length-((ks.take i).map λc=>(c.1.mp f c.2).d).length=0 by simp only[AS,AX,Bt];lia,List.set_cons_zero];rw[List.take_succ_eq_append_getElem hi',Al,Bz];rfl
  ·exact keepH (h2.elim (λr=>.inl (K2.at' r ∎)) (λr=>.inr (K2.at' r ∎)))
theorem ar6:∀(n:Nat)(p:Pg)(u:Nat){st:Sto}{Q:DK},p.hgt+2<=n->(∀st',Kp [] st st'->Q (p.mp (lfF m l) u).d st')->sem P G n "_law_lift" [p.d,.int m,.int (u+l:Nat)] st Q
 |0,p,u,st,Q,hn,q=>by lia
 |1,p,u,st,Q,hn,q=>by lia
 |n+2,p,u,st,Q,hn,q=>by
  refine f7 T.lift rfl [AA p.d,AA (.int m),AA (.int (u+l:Nat)),AC,AC,AC] rfl ?_;unfold ab8
  by_cases hw:p.w="name"
  ·obtain⟨k,rfl⟩:=Pg.w_name hw;simp only[Pg.d];(iterate 2 ∎);refine⟨F3 (by split<;>decide),?_⟩;have:=q st Kp.refl;simp only[Pg.mp,lfF]at this
   by_cases h:u+l<=k
   ·rw[if_pos h]at this;rw[if_pos ⋯];exact b9 (by simpa[Pg.d]using this)
   ·rw[if_neg h]at this;rw[if_neg ⋯];exact b9 (by simpa[Pg.d]using this)
  ·have:=au4 T (n:=n) (F:="_law_lift") (by rw[T.lift];rfl) (x:=.int m) (y:=(u+l:Nat)) (f:=lfF m l) (u:=u) hw (λc hc st Q k=>by
    have z:=Pg.hgt_lt p u c hc;have e:(((u+l:Nat):Int)+((c.2-u:Nat):Int))=((c.2+l:Nat):Int):=by lia
    rw[e];exact ar6 (n+1) c.1 c.2 ⋯ k) q
   rw[Pg.d_w p u]at this ⊢;∎;rw[if_neg hw];exact this
theorem ce5{p:Pg}{d:Nat}(h:p.dq u d):p.w≠"name"->∀c∈p.kidsU u,c.1.dq c.2 (d-1):=by
 cases p<;>simp[Pg.kidsU,Pg.kids,Pg.more,Br,BW,Pg.w]<;>first|exact h|(refine⟨?_,?_⟩<;>first|exact h.1|exact h.2)|exact⟨h.1,h.2.1,h.2.2⟩
theorem aw7:∀(n:Nat)(p:Pg)(u d:Nat){st:Sto}{Q:DK},p.hgt+3<=n->p.dq u d->(1<=d->d+o.hgt+3<=n)->(∀st',Kp [] st st'->Q (p.mp (sbF o) u).d st')->sem P G n "_law_put" [p.d,o.d,.int u] st Q
 |0,p,u,d,st,Q,hn,hq,hd,q=>by lia
 |1,p,u,d,st,Q,hn,hq,hd,q=>by lia
 |n+2,p,u,d,st,Q,hn,hq,hd,q=>by
  refine f7 T.put rfl [AA p.d,AA o.d,AA (.int u),AC,AC,AC] rfl ?_;unfold ac1
  by_cases hw:p.w="name"
  ·obtain⟨k,rfl⟩:=Pg.w_name hw;simp only[Pg.hgt]at hn;simp only[Pg.mp,sbF]at q;simp only[Pg.d];∎
   by_cases h:k=u
   ·rw[if_neg ⋯,if_pos h]at q;rw[if_pos ⋯];∎;have:=hd (hq h);exact⟨by rw[T.lift];rfl,ar6 T (m:=u) (l:=0) (n+1) o 0 ⋯ λst' K=>b9 (q st' K)⟩
   ·rw[if_neg ⋯];(iterate 2 ∎);have:=q st Kp.refl
    by_cases h2:k<u
    ·rw[if_pos h2]at this;rw[if_neg ⋯];exact b9 (by simpa[Pg.d]using this)
    ·rw[if_neg h2,if_neg h]at this;rw[if_pos ⋯];have e:(k:Int)-1=((k-1:Nat):Int):=by lia
     rw[e];exact b9 this
  ·have:=au4 T (n:=n) (F:="_law_put") (by rw[T.put];rfl) (x:=o.d) (y:=u) (f:=sbF o) (u:=u) hw (λc hc st Q k=>by
    have z:=Pg.hgt_lt p u c hc;have e:((u:Int)+((c.2-u:Nat):Int))=((c.2:Nat):Int):=by lia
    rw[e];exact aw7 (n+1) c.1 c.2 (d-1) ⋯ (ce5 T hq hw c hc) (λz=>by have:=hd ⋯;lia) k) q
   rw[Pg.d_w p u]at this ⊢;∎;rw[if_neg hw];∎;rw[if_neg hw];exact this
end
def ch9{p:Pg}(h:p.w="way"):∃k b,p=.way k b:=by cases p<;>simp[Pg.w]at h ⊢
def a37{p:Pg}(h:p.w="pair"):∃a b,p=.pair a b:=by cases p<;>simp[Pg.w]at h ⊢
def ca5{p:Pg}(h:p.w="left"):∃k b,p=.left k b:=by cases p<;>simp[Pg.w]at h ⊢
def bt2{p:Pg}(h:p.w="right"):∃k b,p=.right k b:=by cases p<;>simp[Pg.w]at h ⊢
abbrev Pg.pla:Nat->Pg->Pg->Pg
 |0,r,_=>r
 |j+1,r,p=>p.wf (Pg.pla j r p.f1)
abbrev Pg.fp:Nat->Pg->Prop
 |0,_=>True
 |j+1,p=>p.isF=AB/\p.f1.fp j
section
variable (T:P52 P G) 
include T
def bt4{p:Pg}(hn:p.hgt+14<=n)(hb:p.bd 6\/p.isV=AB)(q0:p.gn=AC->Q .non st)(q1:∀r st',p.gn=AA r->Kp [] st st'->Q r.d st'):sem P G n "_law_gone" [p.d] st Q:=by
 obtain⟨n,rfl⟩:∃k,n=k+1:=⟨n-1,⋯⟩;have put:∀{x y:Pg},x.bd 6/\x.dq 0 6->1+max x.hgt y.hgt<=p.hgt->p.gn=AA (x.sb y)->sem P G n "_law_put" [x.d,y.d,.int 0] st (d9 Q).rt:=λ{x y}h1 h2 h3=>by
  refine aw7 T n x 0 6 ⋯ h1.2 (λ_=>⋯) λst' K=>b9 (q1 _ st' h3 K)
 have two:∀x y:String,D.pures [D.str (AZ x),D.str (AZ y)]=AB:=λx y=>by simp only[u4,u6,g9,BU]
 refine f7 T.gone rfl [AA p.d,AC] rfl ?_;unfold ab5;cases p
 case lets t u=>
  have hb:=hb.resolve_right nofun;simp only[Pg.d];(iterate 3 ∎);exact⟨by rw[T.put];rfl,put hb.2 (by simp only[Pg.hgt];lia) rfl⟩
 case give t u=>
  have hb:=hb.resolve_right nofun;simp only[Pg.d];(iterate 3 ∎);rw[Pg.d_w t 0];rfl'
  by_cases hw:t.w="way"
  ·rw[if_pos hw];obtain⟨k,b,rfl⟩:=ch9 hw;simp only[Pg.kidsU,Pg.kids,Pg.more,Pg.frt,Br,BW,Pg.w];∎;exact⟨by rw[T.put];rfl,b.d,rfl,put hb.1 (by simp only[Pg.hgt];lia) rfl⟩
  ·rw[if_neg hw];have g0:(Pg.give t u).gn=AC:=by cases t<;>first|rfl|exact absurd rfl hw
   ∎;refine⟨g9 _,two _ _,Ao _,?_⟩;simp only[CW,EN,i8,f8,BZ,decide_true,decide_false,Bv,Bj,Bk,BS,BD,if_false];(iterate 3 ∎);exact b9 (q0 g0)
 case first t=>
  have hb:=hb.resolve_right nofun;simp only[Pg.d];(iterate 4 ∎);refine⟨g9 _,two _ _,Ao _,?_⟩;simp only[CW,EN,i8,f8,BZ,decide_true,decide_false,Bv,Bj,Bk,BS,if_true];rfl';rw[Pg.d_w t 0];rfl'
  by_cases hw:t.w="pair"
  ·rw[if_pos hw];obtain⟨a,b,rfl⟩:=a37 hw;simp only[Pg.kidsU,Pg.kids,Pg.more,Pg.frt,Br,BW,Pg.w];∎;exact⟨a.d,rfl,b9 (q1 a st rfl Kp.refl)⟩
  ·rw[if_neg hw];have g0:(Pg.first t).gn=AC:=by cases t<;>first|rfl|exact absurd rfl hw
   (iterate 3 ∎);exact b9 (q0 g0)
 case second t=>
  have hb:=hb.resolve_right nofun;simp only[Pg.d];(iterate 4 ∎);refine⟨g9 _,two _ _,Ao _,?_⟩;simp only[CW,EN,i8,f8,BZ,decide_true,decide_false,Bv,Bj,Bk,BS,if_true];rfl';rw[Pg.d_w t 0];rfl'
  by_cases hw:t.w="pair"
  ·rw[if_pos hw];obtain⟨a,b,rfl⟩:=a37 hw;simp only[Pg.kidsU,Pg.kids,Pg.more,Pg.frt,Br,BW,Pg.w];∎;exact⟨b.d,rfl,b9 (q1 b st rfl Kp.refl)⟩
  ·rw[if_neg hw];have g0:(Pg.second t).gn=AC:=by cases t<;>first|rfl|exact absurd rfl hw
   (iterate 3 ∎);exact b9 (q0 g0)
 case case t u v=>
  have hb:=hb.resolve_right nofun;simp only[Pg.d];(iterate 4 ∎);refine⟨g9 _,two _ _,Ao _,?_⟩;simp only[CW,EN,i8,f8,BZ,decide_true,decide_false,Bv,Bj,Bk,BS,BD,if_false];∎;rw[Pg.d_w t 0];rfl'
  by_cases hw:t.w="left"
  ·rw[if_pos hw];obtain⟨k,b,rfl⟩:=ca5 hw;simp only[Pg.kidsU,Pg.kids,Pg.more,Pg.frt,Br,BW,Pg.w];∎;exact⟨by rw[T.put];rfl,b.d,rfl,put hb.2.1 (by simp only[Pg.hgt];lia) rfl⟩
  ·rw[if_neg hw];∎
   by_cases hw2:t.w="right"
   ·rw[if_pos hw2];obtain⟨k,b,rfl⟩:=bt2 hw2;simp only[Pg.kidsU,Pg.kids,Pg.more,Pg.frt,Br,BW,Pg.w];∎;exact⟨by rw[T.put];rfl,b.d,rfl,put hb.2.2 (by simp only[Pg.hgt];lia) rfl⟩
   ·rw[if_neg hw2];have g0:(Pg.case t u v).gn=AC:=by cases t<;>first|rfl|exact absurd rfl hw|exact absurd rfl hw2
    ∎;exact b9 (q0 g0)
 all_goals
  simp only[Pg.d];(iterate 4 ∎);refine⟨g9 _,two _ _,Ao _,?_⟩;simp only[CW,EN,i8,f8,BZ,decide_true,decide_false,Bv,Bj,Bk,BS,BD,if_false];(iterate 3 ∎);exact b9 (q0 rfl)
theorem ci0{p:Pg}(h:p.bd 6)(hF:p.isF=AB):p.f1.bd 6:=by cases p<;>first|(cases hF;done)|exact h|exact h.1
theorem cd3{p:Pg}(hF:p.isF=AB):p.f1.hgt+1<=p.hgt:=by cases p<;>first|(cases hF;done)|(simp only[Pg.hgt,Pg.f1];lia)
abbrev Pg.at1:Pg->Nat
 |.never _ _=>2|_=>1
theorem a84{p:Pg}(hF:p.isF=AB):∃l,p.d=.tup (.str p.w::l)/\(D.str p.w::l)[p.at1]?=AA p.f1.d/\(if p.w="never" then(1:Int)else 0)=(p.at1:Int)-1/\p.at1+1<=l.length+1/\l.length<=3/\∀x:Pg,(p.wf x).d=.tup ((D.str p.w::l).take p.at1++[x.d]++(D.str p.w::l).drop (p.at1+1)):=by
 cases p<;>first|(cases hF;done)|exact⟨_,rfl,rfl,rfl,by simp[Pg.at1],∎,λ_=>rfl⟩
theorem co1(p:Pg):p.isF=isW p.w [.str "give",.str "first",.str "second",.str "case",.str "never"]:=by cases p<;>simp[Pg.isF,Pg.w,isW,i8,f8]
def b32:∀(h:Nat)(p:Pg){n:Nat}{st:Sto}{Q:DK},h<=1000->p.hgt<=h->h+16<=n->(p.bd 6\/p.isV=AB)->(p.nx=AC->∀st',Kp [] st st'->Q .non st')->(∀q a j x r st',p.nx=AA q->p.fp j->Pg.pla j r p=q->j<=h->st a=AC->st' a=AA (.lst [.tup (AY j (.int 0)),x,r.d])->Kp [] st st'->Q (.ref a) st')->sem P G n "_law_onward" [p.d] st Q:=by
 intro h
 induction h with
 |zero=>intro p n st Q _ hp;have:=ah9 p;lia
 |succ h ih=>
 intro p n st Q h1 hp hn hb q0 q1;obtain⟨n,rfl⟩:∃k,n=k+1:=⟨n-1,⋯⟩;have five:D.pures [D.str (AZ "give"),D.str (AZ "first"),D.str (AZ "second"),D.str (AZ "case"),D.str (AZ "never")]=AB:=by simp only[u4,u6,g9,BU]
 refine f7 T.onw rfl [AA p.d,AC,AC,AC] rfl ?_;unfold aa6;∎;refine⟨by rw[T.gone];rfl,bt4 T ⋯ hb (λg0=>?_) λr st1 g1 K1=>?_⟩
 ·∎;refine .inl ?_;have eF:=co1 T p;cases hF:p.isF with
  |false=>
   ∎;rw[Pg.d_w p 0];rfl';refine⟨g9 _,five,Ao _,?_⟩;rw[hF]at eF;have e2:([D.str "give",D.str "first",D.str "second",D.str "case",D.str "never"].any λy=>deq y (.str p.w))=AH:=by
    cases z:([D.str "give",D.str "first",D.str "second",D.str "case",D.str "never"].any λy=>deq y (.str p.w))with
    |false=>rfl
    |true=>exact absurd (eF.mpr z) ∅
   rw[e2];rfl';∎;have:p.nx=AC:=by cases p<;>first|rfl|(cases hF;done)|cases g0
   exact b9 (q0 this st Kp.refl)
  |true=>
   rw[hF]at eF;have e2:([D.str "give",D.str "first",D.str "second",D.str "case",D.str "never"].any λy=>deq y (.str p.w))=AB:=eF.mp rfl;obtain⟨l,d1,d2,d3,d4,d5,d6⟩:=a84 T hF;have hb1:p.f1.bd 6:=by
    rcases hb with hb|hb
    ·exact ci0 T hb hF
    ·exact(fv hF hb).elim
   have hh:=cd3 T hF;have nxF:=E2 hF;rw[g0]at nxF;rw[d1];∎;refine⟨g9 _,five,Ao _,?_⟩;rw[e2];rfl';∎;have d3':(1:Int)+(if p.w="never" then(1:Int)else 0)=((p.at1:Nat):Int):=by rw[d3];lia
   rw[d3'];∎;refine⟨by rw[T.onw];rfl,p.f1.d,by rw[o7];exact d2,?_⟩;refine ih p.f1 ⋯ ⋯ ⋯ (.inl hb1) (λz st' K=>?_) λq a j x r st' e1 e3 e4 e5 ha e6 K=>?_
   ·∎;refine .inl ?_;∎;exact b9 (q0 (by rw[nxF,z];rfl) st' K)
   ·∎;refine .inr ⟨nofun,?_⟩;rfl';∎;rw[t3 (.inl e6)];refine⟨_,rfl,?_⟩;rfl';refine⟨u8 (by rw[DC];lia),?_⟩;rw[t3 (.inl e6)];refine⟨_,rfl,?_⟩;rw[t3 (.inl e6)];refine⟨_,rfl,λa2 ha2=>?_⟩;exact b9 (q1 (p.wf q) a2 (j+1) x r _ (by rw[nxF,e1];rfl) ⟨hF,e3⟩ (by show p.wf _=_;rw[e4]) ⋯ (none_of K ha2) (by rw[b8];rfl) (K.new ha2))
 ·∎;refine .inr ⟨ag4,?_⟩;rfl';∎;intro a ha;have e1:p.nx=AA r:=by
   cases hF:p.isF with
   |true=>rw[E2 hF,g1]
   |false=>cases p<;>first|(cases hF;done)|(cases g1;done)|exact g1
  exact b9 (q1 r a 0 p.d r _ e1 trivial rfl (Ao _) (none_of K1 ha) b8 (K1.new ha))
theorem a48{r:Pg}:∀(j:Nat)(p:Pg){n:Nat}{st:Sto}{Q:DK},j+2<=n->p.fp j->Q (Pg.pla j r p).d st->sem P G n "_law_placed_in" [p.d,.int (j:Nat),r.d] st Q
 |0,p,n,st,Q,hn,hf,q=>by
  obtain⟨n,rfl⟩:∃k,n=k+1:=⟨n-1,⋯⟩;refine f7 T.plc rfl [AA p.d,AA (.int ((0:Nat):Int)),AA r.d,AC] rfl ?_;unfold T7;∎;rw[if_pos (by rfl)];∎;exact b9 q
 |j+1,p,n,st,Q,hn,hf,q=>by
  obtain⟨n,rfl⟩:∃k,n=k+1:=⟨n-1,⋯⟩;obtain⟨hF,hf⟩:=hf;obtain⟨l,d1,d2,d3,d4,d5,d6⟩:=a84 T hF;have a1:1<=p.at1/\p.at1<=2:=by cases p<;>simp[Pg.at1]
  refine f7 T.plc rfl [AA p.d,AA (.int ((j+1:Nat):Int)),AA r.d,AC] rfl ?_;unfold T7;∎;rw[if_neg ⋯,d1];∎;have d3':(1:Int)+(if p.w="never" then(1:Int)else 0)=((p.at1:Nat):Int):=by rw[d3];lia
  rw[d3'];∎;have e1:((p.at1:Nat):Int)+1=((p.at1+1:Nat):Int):=by lia
  have e2:((j+1:Nat):Int)-1=((j:Nat):Int):=by lia
  rw[e1,e2,W4,W4,W9,W9,b75,as6];refine⟨by simp only[AS];lia,by rw[T.plc];rfl,p.f1.d,by rw[o7];exact d2,?_⟩;refine a48 j p.f1 ⋯ hf ?_;rfl';refine⟨u8 (by simp only[Bt,AS,Av];lia),by(try simp only[AS]);lia,u8 (by simp only[AU,Bt,CB,AS,Av];lia),b9 ?_⟩;have:=d6 (Pg.pla j r p.f1);rw[<-this];exact q
end
theorem V9:∀(a b:Nat)(p:Pg),nxs (a+b) p=(nxs a p).bind (nxs b)
 |0,b,p=>by rw[Ch];rfl
 |a+1,b,p=>by
  rw[Kr];show p.nx.bind (nxs (a+b))=(p.nx.bind (nxs a)).bind (nxs b);cases p.nx with
  |none=>rfl
  |some q=>exact V9 a b q
def b81{S:Nat}{p:Pg}(h:nxs S p=AA v)(hv:v.nx=AC)(hj:nxs j p=AA q):j<=S:=by
 refine BJ λz=>?_;obtain⟨i,rfl⟩:∃i,j=S+(i+1):=⟨j-S-1,⋯⟩;rw[V9,h]at hj;have hj:v.nx.bind (nxs i)=AA q:=hj;rw[hv]at hj;cases hj
structure Tt(k:Kd)(q:Pg):Prop where
 kn:Kn [] q k
 hg:q.hgt<=640
 bd:q.bd 6\/q.isV=AB
 kd:q.kn 3
def ck3{k:Kd}{p:Pg}(h1:Kn [] p k)(h2:p.hgt<=37)(h3:p.kn 3)(h4:Bb r k p):∀j q,j<=150->nxs j p=AA q->Tt k q:=λj q hj e=>by
 rcases h4 with h4|⟨_,h4,_⟩
 ·obtain⟨x,y⟩:=a57 (d:=6) (m:=3) ∅ h1 h4 h3 e;exact⟨ah1 h1 e,⋯,.inl x.bd,x.kn⟩
 ·cases j with
  |zero=>cases e;exact⟨h1,⋯,.inr h4,h3⟩
  |succ j=>have e:p.nx.bind (nxs j)=AA q:=e;rw[Z0 h4]at e;cases e
def cm1{k:Kd}(h:Tt k q):i5 q.d<=700:=by have:=cj3 q h.kd;have:=h.hg;lia
def az1(q:Pg)(i:Int):deq (.tup [q.d,.int i]) (.tup [q.d,.int i])=AB:=by simp[p8,o5,b71,V8]
def M3{k:Kd}{i:Int}(h:Tt k q):(D.tup [q.d,.int i]).pure=AB/\ES (i5 (.tup [q.d,.int i])) (i5 (.tup [q.d,.int i]))<=2000:=by
 have:=cm1 h;refine⟨by simp only[E6,u4,u6,by9,at4,BU],Ay (Gd _ _) ?_⟩;simp only[r6,o4,M8];lia
def ce1{p:Pg}(h:p.isV=AB):([D.str "star",D.str "pair",D.str "left",D.str "right",D.str "way"].any λy=>deq y (.str p.w))=AB:=by cases p<;>first|(cases h;done)|simp[Pg.w,i8,f8]
abbrev Fd(st:Sto)(v:Pg)(fd:D):Prop:=(fd=.non/\v.nx=AC)\/∃b j x r q,fd=.ref b/\st b=AA (.lst [.tup (AY j (.int 0)),x,r.d])/\v.nx=AA q/\v.fp j/\Pg.pla j r v=q/\j<=640
section
variable (T:P52 P G) (U:PRk P G) 
include T
def au1{i:Int}(q:Q (.bl AB) st):sem P G (n+1) "_law_whole" [.int i] st Q:=by
 refine f7 T.whole rfl [AA (.int i)] rfl ?_;unfold ab0;∎;refine aj8 (ty:="int") rfl ?_;simp only[beq_self_eq_true,Bk];rfl';refine aj8 (ty:="int") rfl ?_;exact⟨AH,rfl,b9 q⟩
include U
def b73(hl:P "law"=AA U2)(hdf:p6 G.cls "run"=AA 10000){ns:List Int}(hn:680<=n)(hns:ns.length<=63)(h:rdS st a (ns.map D.int)):sem P G n "law" [.ref a] st λd _=>d=.bl AB:=by
 obtain⟨n,rfl⟩:∃m,n=m+1:=⟨n-1,⋯⟩;refine f7 hl rfl [AA (.ref a),AC,AC,AC,AC,AC,AC,AC,AC] rfl ?_;unfold U2;∎;obtain⟨n,rfl⟩:∃m,n=m+1:=⟨n-1,⋯⟩;refine⟨by rw[T.deck];rfl,bn3 T hns h λda s1 I1 K1=>?_⟩;∎;refine⟨by rw[T.term];rfl,by rw[T.kind];rfl,ad9 T 2 ⋯ ⋯ I1 λk s2 k1 k2 k3 I2 K2=>?_⟩;rfl';refine⟨by rw[T.next];rfl,E7 T ∅ I2 λr s3 r0 r1 I3 K3=>?_⟩;obtain⟨r,rfl⟩:=CO r0;rfl';have er:(4:Int)+(r:Nat)=((4+r:Nat):Int):=by lia
 rw[er];refine bm1 T (4+r) ⋯ ⋯ (k:=k) (Γ:=[]) ⟨Kd.gd_gw k1 ⋯,⋯,∎,by simp only[Av];lia⟩ I3 λp s4 g4 b4 I4 K4=>?_;have hpt:p.parts<=2000:=Ay g4.pt (by simp only[Tr];(repeat' split)<;>lia);have tt:=ck3 g4.kn (by have:=g4.hg;lia) g4.told b4;have hg37:p.hgt<=37:=by have:=g4.hg;lia
 ∎;intro sa hsa;∎;have onw:∀{v:Pg}{st1:Sto}{Q1:DK},Tt k v->(∀fd st',Fd st' v fd->Kp [] st1 st'->Q1 fd st')->sem P G n.succ "_law_onward" [v.d] st1 Q1:=λ{v st1 Q1}hv q=>b32 T 640 v ⋯ hv.hg ⋯ hv.bd (λe st' K=>q _ st' (.inl ⟨rfl,e⟩) K) λq' a j x r st' e1 e2 e3 e4 ha e5 K=>q _ st' (.inr ⟨a,j,x,r,q',rfl,e5,e1,e2,e3,e4⟩) K;have I5:l7 (b7 s4 sa (.lst [p.d])) da:=I4.new hsa;refine⟨by rw[T.onw];rfl,onw (tt 0 p ⋯ rfl) λfd s5 F5 K5=>?_⟩;have nds:da≠sa:=λz=>by obtain⟨l,hl⟩:=I4;rw[z,hsa]at hl;cases hl
 have hsa5:s5 sa=AA (.lst [p.d]):=K5.at' b8 ∎;have I5:=I5.keep K5 ∎;clear K5 K4 K3 K2 K1 I4 I3 I2 I1 hsa;∎;refine ap6 (λm env st'=>∃(qs:List Pg)(v:Pg)(fd:D),m+qs.length=150/\(∀j,j<=qs.length->nxs j p=(qs++[v])[j]?)/\env=[AA (.ref a),AA (.ref da),AA p.d,AA (.ref sa),AA fd,AC,AC,AC,AC]/\st' sa=AA (.lst ((qs++[v]).map Pg.d))/\Fd st' v fd/\l7 st' da) ?_ 150 _ _ ⟨[],p,fd,rfl,λj hj=>by obtain rfl:=Nat.le_zero.mp hj;rfl,rfl,hsa5,F5,I5⟩;clear F5 hsa5 I5;rintro m env st' W ⟨qs,v,fd,hm,hps,rfl,hs,hF,I⟩ ih;have hv:nxs qs.length p=AA v:=by rw[hps _ (AW _)];simp
 have tv:=tt _ v ⋯ hv;rw[aw0];rfl';have hL:((qs++[v]).map Pg.d).length=qs.length+1:=by simp
 have hat:atI ((qs++[v]).map Pg.d) (-1)=AA v.d:=by rw[Al];exact W8
 rcases hF with⟨rfl,hv0⟩|⟨b,j,x,r',q,rfl,hb,e1,e2,e3,e4⟩
 ·refine .inl ⟨rfl,?_⟩;∎;clear ih;have hS:∀j q,nxs j p=AA q->j<=qs.length:=λj q e=>b81 hv hv0 e;∎;rw[o0 (.inl hs),hL];∎;refine .inl ?_;have hS0:((qs.length+1:Nat):Int)-1=((qs.length:Nat):Int):=by lia
  rw[hS0];generalize hSS:qs.length=S at *;∎;refine⟨by rw[U.stof];rfl,ay3 U (H:=40) ⋯ g4.kn hv hv0 ⋯ ⋯ (Di (Hy (Hy (show S+2<=152 by lia) (AW 40)) (show S+1<=151 by lia)) ∅) λs6 K6=>?_⟩;∎;refine⟨by rw[T.whole];rfl,au1 T ?_⟩;rfl';have at_:∀j,j<=S->∃q,nxs j p=AA q/\atI ((qs++[v]).map Pg.d) ((j:Nat):Int)=AA q.d:=λj hj=>by
   have hlt:j<(qs++[v]).length:=by simp only[AU,Ak];lia
   refine⟨(qs++[v])[j],by rw[hps j hj,AM hlt],?_⟩;rw[o7,Aw,AM hlt];rfl
  have hh:((S:Nat):Int) / 2=((S / 2:Nat):Int):=by lia
  obtain⟨q,hq,aq⟩:=at_ (S / 2) ⋯;have tq:=tt _ q ⋯ hq;have hd:Y1 ((S:Nat):Int) 2:=⟨∅,∅⟩;have hs6:=K6.at' hs ∎;rw[hh,t3 (.inl hs6)];refine⟨by rw[U.stof];rfl,hd,_,aq,ay3 U (S:=S-S / 2) (v:=v) (H:=640) ⋯ tq.kn (by have:=V9 (S / 2) (S-S / 2) p;rw[hq,show S / 2+(S-S / 2)=S by lia,hv]at this;exact this.symm) hv0 tq.hg ⋯ (Di (Hy (Hy (show S-S / 2+2<=152 by lia) (AW 640)) (show S-S / 2+1<=151 by lia)) ∅) λs7 K7=>⟨hd,?_⟩⟩;have hs7:=K7.at' hs6 ∎;have I7:=(I.keep K6 ∎).keep K7 ∎;rfl';rw[if_neg ⋯];∎;refine⟨by rw[T.next];rfl,E7 T ⋯ I7 λmo s8 m0 m1 I8 K8=>?_⟩;obtain⟨mo,rfl⟩:=CO m0;have hs8:=K8.at' hs7 (by simpa using λz=>nds z.symm);∎;have hall:∀j q,nxs j p=AA q->q.hgt<=1000:=λj q e=>Ay (tt j q (by have:=hS j q e;lia) e).hg ∅;refine⟨by rw[U.run];rfl,a04 U.toPRn (S:=S) ⋯ g4.kn hpt ⋯ hv hv0 ⋯ hall λs9 r9 e9 K9=>?_⟩;have hs9:=K9.at' hs8 ∎;∎;have hmin:(if((S:Nat):Int)<((mo:Nat):Int)then((S:Nat):Int)else((mo:Nat):Int))=((min mo S:Nat):Int):=by split<;>lia
  rw[hmin];obtain⟨q9,f9,a9⟩:=at_ (min mo S) ⋯;rw[e9]at f9;cases f9;have t9:=tt _ r9 ⋯ e9;refine aj8 (ty:="tuple") rfl ⟨AB,rfl,?_⟩;rw[if_neg ∅,t3 (.inl hs9)];refine⟨_,a9,?_⟩;rw[cp6,az1];refine⟨(M3 t9).1,(M3 t9).1,(M3 t9).2,AH,rfl,?_⟩;rfl';refine⟨by rw[T.whole];rfl,au1 T ⟨AB,rfl,?_⟩⟩;rw[if_neg ∅];∎;refine⟨10000,by rw[U.run];rfl,hdf,a04 U.toPRn (m:=10000) (S:=S) ⋯ g4.kn hpt ⋯ hv hv0 ⋯ hall λs10 r10 e10 K10=>?_⟩;have hs10:=K10.at' hs9 ∎;rw[show min 10000 S=S by lia]at e10 ⊢;rw[hv]at e10;cases e10;rfl';rw[t3 (.inl hs10)];refine⟨_,hat,?_⟩;rw[a78,az1];refine⟨(M3 tv).1,(M3 tv).1,(M3 tv).2,AB,rfl,?_⟩;rw[if_pos rfl,t3 (.inl hs10)];refine⟨_,hat,?_⟩;have hV:=ce1 (ay5 tv.kn hv0);rw[Pg.d_w v 0];rfl';refine⟨?_,by simp only[u4,u6,g9,BU],by simp only[l9];lia,?_⟩
  ·exact g9 _
  ·rw[hV];exact b9 rfl
 ·refine .inr ⟨nofun,?_⟩;rfl';rw[o0 (.inl hs),hL];rfl'
  by_cases h150:qs.length+1<=150
  ·rw[if_pos ⋯];∎;rw[t3 (.inl hs)];refine⟨by rw[u1 (.inl hs)];trivial,by rw[T.plc];rfl,v.d,hat,?_⟩;rw[t3 (.inl hb)];refine⟨_,rfl,?_⟩;rw[a89,DC,t3 (.inl hb)];refine⟨_,rfl,a48 T j v ⋯ e2 ?_⟩;rw[e3];rfl';rw[z5 hs];refine⟨by rw[hL];exact u8 ⋯,?_⟩;∎;have hq:nxs (qs.length+1) p=AA q:=by rw[V9,hv];show v.nx.bind _=_;rw[e1];rfl
   refine⟨by rw[T.onw];rfl,_,W8,onw (tt _ q h150 hq) λfd st2 F2 K2=>?_⟩;refine ih (m-1) _ _ ⋯ ⟨qs++[v],q,fd,by simp only[AU,Ak];lia,λj hj=>?_,rfl,by rw[K2.at' b8 ∎,<-List.map_singleton,<-Al],F2,(I.keep (Kp.refl.put (L:=[sa]) ∎) (by simpa using nds)).keep K2 ∎⟩;simp only[AU,Ak]at hj
   by_cases hj':j<=qs.length
   ·rw[hps j hj'];exact(Aj (by simp only[AU,Ak];lia)).symm
   ·obtain rfl:j=qs.length+1:=by lia
    rw[hq];simp
  ·rw[if_neg ⋯];∎;refine .inr ⟨nofun,?_⟩;∎;exact b9 rfl
end
def cv8:P52 P8 l4:=by
 repeat' (first|rfl|(intro z;cases z;done)|constructor)
def cu4:PRk P8 l4:=by
 repeat' (first|rfl|(intro z;cases z;done)|constructor)
 rw[show l4.cls "Reckoner"=([("here":Str),"waiting","reckoned","end","steps"]:List Str) by rfl];simp only[Ae,Ba,or_false];rintro f (h|h|h)<;>simp only[h,true_or,or_true]
def a09:p6 l4.cls "run"=AA 10000:=by
 have e:l4.cls ⟨#[33]++("run":Str).cps⟩=("d":Str)::AY 10000 ("d":Str):=by
  unfold l4;simp only;exact if_pos (by decide+kernel)
 unfold p6;rw[e];show AA (((AY 10000 _).length:Nat):Int)=_;rw[DC];rfl
def bi1(a:AI)(ns:List Int)(h:ns.length<=63):sem P8 l4 690 "law" [.ref a] (st0 a ns) λd _=>d=.bl AB:=
 b73 cv8 cu4 rfl a09 ∅ h (.inr (by unfold st0;rw[if_pos rfl]))
end Ek
namespace Ek
open PySem L2
abbrev top(i:Nat):BV:=PySem.Challenge.pw_evenkinds_k52_whole_runs_and_their_steps.main.body.getD i (.Pass ⟨0,0,0,0⟩)
abbrev mth(i k:Nat):BV:=match top i with|.ClassDef _ _ _ b _ _ _ _ _ _ _=>b.getD k (.Pass ⟨0,0,0,0⟩)|_=>.Pass ⟨0,0,0,0⟩
def bd5:Stat0 (top 24) U3 ["program","most"]:=⟨⟨rfl,rfl,rfl,by decide+kernel,rfl,by decide+kernel,by decide+kernel⟩,rfl,by decide+kernel⟩
def b35{pr:Ah}{w:Aq}{K:AN}{h:Heap}{mg:Str->Option AG}{ts:List AI}(X:K.In h)(G:h.Ns AO mg){g0:AI}{g1:AI}{ku0:AG}{ku1:AG}{C0:AI}{C1:AI}{C2:AI}
  (a0:FnA K ts AH "made_of_parts" (top 3))
  (a1:FnA K ts AH "order_of_few" (top 4))
  (a2:FnA K ts AH "taken" (top 6))
  (a3:FnA K ts AH "inner" (top 14))
  (a4:FnA K ts AH "with_inner" (top 15))
  (a5:FnA K ts AH "names_more" (top 16))
  (a6:FnA K ts AB "with_parts" (top 19))
  (a7:FnA K ts AH "inner_under" (top 20))
  (a8:FnA K ts AB "all_parts" (top 21))
  (a9:FnD K "run" (top 24) 10000)
  (a10:FnA K ts AH "with_first" (top 25))
  (a11:FnA K ts AH "behind_let" (top 28))
  (a12:FnA K ts AH "behind_form" (top 29))
  (a13:FnA K ts AH "put_together" (top 30))
  (a14:FnA K ts AH "names_bound" (top 31))
  (a15:FnA K ts AB "fill" (top 32))
  (a16:FnA K ts AH "standing" (top 33))
  (a17:FnA K ts AH "speaks_of_others" (top 34))
  (a18:FnA K ts AH "steps_of" (top 36))
  (a19:FnA K ts AH "_law_deck" (top 39))
  (a20:FnA K ts AH "_law_next" (top 40))
  (a21:FnA K ts AH "_law_kind" (top 41))
  (a22:FnA K ts AH "_law_many" (top 42))
  (a23:FnA K ts AH "_law_plain" (top 43))
  (a24:FnA K ts AH "_law_made" (top 44))
  (a25:FnA K ts AH "_law_taken" (top 45))
  (a26:FnA K ts AH "_law_term" (top 46))
  (a27:FnA K ts AH "_law_under" (top 47))
  (a28:FnA K ts AH "_law_lift" (top 48))
  (a29:FnA K ts AH "_law_put" (top 49))
  (a30:FnA K ts AH "_law_gone" (top 50))
  (a31:FnA K ts AH "_law_onward" (top 51))
  (a32:FnA K ts AH "_law_placed_in" (top 52))
  (a33:FnA K ts AH "_law_whole" (top 53))
  (a34:FnA K ts AH "law" (top 54))
  (bb:∀b∈J8,BH K AO b=AA AC)
  (ga0:BH K AO "INNER_FROM"=AA (AA (.ref g0))) (gt0:(letI:Tbs:=⟨ts,mFB,(l4.cls "!kt").isEmpty⟩;Y2 K g0 (l4.tab "INNER_FROM"))=AB)
  (ga1:BH K AO "UNDER_ONE_MORE"=AA (AA (.ref g1))) (gt1:(letI:Tbs:=⟨ts,mFB,(l4.cls "!kt").isEmpty⟩;Y2 K g1 (l4.tab "UNDER_ONE_MORE"))=AB)
  (kc0:BH K AO "FEW"=AA (AA ku0)) (kv0:(letI:Tbs:=⟨ts,mFB,(l4.cls "!kt").isEmpty⟩;B4 K (.int 2000) ku0)=AB)
  (kc1:BH K AO "WITHIN"=AA (AA ku1)) (kv1:(letI:Tbs:=⟨ts,mFB,(l4.cls "!kt").isEmpty⟩;B4 K (.ktup [.inr "give",.inr "first",.inr "second",.inr "case",.inr "never"]) ku1)=AB)
  (ky0:BH K AO "!run"=AA AC)
  (ca0:ClA K "Bound" C0)
  (ca1:ClA K "Runner" C1)
  (ca2:ClA K "Reckoner" C2) (cf0_0:BL K (.ref C0) "program"=AA AC) (cf0_1:BL K (.ref C0) "around"=AA AC) (cf0_2:BL K (.ref C0) "together"=AA AC) (cf0_3:BL K (.ref C0) "copies"=AA AC) (cf0_4:BL K (.ref C0) "has_names"=AA AC) (cf0_5:BL K (.ref C0) "end"=AA AC) (cf0_6:BL K (.ref C0) "steps"=AA AC) (cf1_0:BL K (.ref C1) "here"=AA AC) (cf1_1:BL K (.ref C1) "forms"=AA AC) (cf1_2:BL K (.ref C1) "gone"=AA AC) (cf1_3:BL K (.ref C1) "most"=AA AC) (cf2_0:BL K (.ref C2) "here"=AA AC) (cf2_1:BL K (.ref C2) "waiting"=AA AC) (cf2_2:BL K (.ref C2) "reckoned"=AA AC) (cf2_3:BL K (.ref C2) "end"=AA AC) (cf2_4:BL K (.ref C2) "steps"=AA AC)
  (m0:MtA K ts AH "Bound" C0 "__init__" (mth 26 0))
  (m1:MtA K ts AH "Runner" C1 "__init__" (mth 27 0))
  (m2:MtA K ts AH "Runner" C1 "turn" (mth 27 1))
  (m3:MtA K ts AH "Runner" C1 "step" (mth 27 2))
  (m4:MtA K ts AH "Reckoner" C2 "__init__" (mth 37 0))
  (m5:MtA K ts AH "Reckoner" C2 "turn" (mth 37 1))
  (m6:MtA K ts AH "Reckoner" C2 "come_upon" (mth 37 2))
  (m7:MtA K ts AH "Reckoner" C2 "come_to" (mth 37 3)) (nl:L4 K=AB) (nt:Ip K=AB) (tso:al3 K ts=AB) :
  (letI:Tbs:=⟨ts,mFB,(l4.cls "!kt").isEmpty⟩;AllOk pr w K mg P8 l4)/\L4 K=AB/\Ip K=AB/\∀P∈ts,∃c,Cb K c P=AB:=by
 letI:Tbs:=⟨ts,mFB,(l4.cls "!kt").isEmpty⟩
 refine⟨⟨λf d hf hi=>?_,λf d hf hi=>?_,λf c Ca hn hf=>?_,λb hb=>W.mg_none_of X G (bb b hb),λg hg=>?_,λg i hg=>?_,λc hc=>?_,rfl⟩,nl,nt,bv5 tso⟩
 ·
  refine(?_:∀f d,(f,d)∈P3->isM f=AH->DefOk K mg (p6 l4.cls f) f d) f d (PySem.mem_of_lookup hf) hi;unfold P3
  iterate 8 refine g5 (λhi=>absurd hi (by decide+kernel)) ?_
  refine g5 (λ_=>a0.ok X G) ?_;refine g5 (λ_=>a1.ok X G) ?_;refine g5 (λ_=>a2.ok X G) ?_;refine g5 (λ_=>a3.ok X G) ?_;refine g5 (λ_=>a4.ok X G) ?_;refine g5 (λ_=>a5.ok X G) ?_;refine g5 (λ_=>a6.ok X G) ?_;refine g5 (λ_=>a7.ok X G) ?_;refine g5 (λ_=>a8.ok X G) ?_;refine g5 (λ_=>a9.ok X G bd5 (λ_ _ _ _ _ _ _ _ _ _ _ hT hS=>⟨bdS λ_=>bdS λ_=>bdZ (HY rfl hT hS rfl rfl),λus hl=>match us,hl with|[_],_=>HY rfl hT hS rfl rfl⟩) a09) ?_;refine g5 (λ_=>a10.ok X G) ?_;refine g5 (λ_=>a11.ok X G) ?_;refine g5 (λ_=>a12.ok X G) ?_;refine g5 (λ_=>a13.ok X G) ?_;refine g5 (λ_=>a14.ok X G) ?_;refine g5 (λ_=>a15.ok X G) ?_;refine g5 (λ_=>a16.ok X G) ?_;refine g5 (λ_=>a17.ok X G) ?_;refine g5 (λ_=>a18.ok X G) ?_;refine g5 (λ_=>a19.ok X G) ?_;refine g5 (λ_=>a20.ok X G) ?_;refine g5 (λ_=>a21.ok X G) ?_;refine g5 (λ_=>a22.ok X G) ?_;refine g5 (λ_=>a23.ok X G) ?_;refine g5 (λ_=>a24.ok X G) ?_;refine g5 (λ_=>a25.ok X G) ?_;refine g5 (λ_=>a26.ok X G) ?_;refine g5 (λ_=>a27.ok X G) ?_;refine g5 (λ_=>a28.ok X G) ?_;refine g5 (λ_=>a29.ok X G) ?_;refine g5 (λ_=>a30.ok X G) ?_;refine g5 (λ_=>a31.ok X G) ?_;refine g5 (λ_=>a32.ok X G) ?_;refine g5 (λ_=>a33.ok X G) ?_;refine g5 (λ_=>a34.ok X G) ?_;exact a75
 ·
  refine(?_:∀f d,(f,d)∈P3->isM f=AB->∃c m,f=c6 c m/\isM c=AH/\isM m=AH/\MthOk K mg (p6 l4.cls (c6 c m)) c m d) f d (PySem.mem_of_lookup hf) hi;unfold P3;refine g5 (λ_=>m0.ok ca0 X G) ?_;refine g5 (λ_=>m1.ok ca1 X G) ?_;refine g5 (λ_=>m2.ok ca1 X G) ?_;refine g5 (λ_=>m3.ok ca1 X G) ?_;refine g5 (λ_=>m4.ok ca2 X G) ?_;refine g5 (λ_=>m5.ok ca2 X G) ?_;refine g5 (λ_=>m6.ok ca2 X G) ?_;refine g5 (λ_=>m7.ok ca2 X G) ?_
  iterate 35 refine g5 (λhi=>absurd hi (by decide+kernel)) ?_
  exact a75
 ·
  unfold l4 at hf;simp only at hf
  by_cases hdk0:c="!run"
  ·subst hdk0;rw[ky0]at hn;cases hn
  rw[if_neg hdk0]at hf
  by_cases hc0:c="Bound"
  ·subst hc0;rw[ca0.a]at hn;cases hn;rw[if_pos rfl]at hf;simp only[Ae,Ba,or_false]at hf;refine⟨ca0.cl,?_⟩
   rcases hf with rfl|rfl|rfl|rfl|rfl|rfl|rfl
   ·exact cf0_0
   ·exact cf0_1
   ·exact cf0_2
   ·exact cf0_3
   ·exact cf0_4
   ·exact cf0_5
   ·exact cf0_6
  rw[if_neg hc0]at hf
  by_cases hc1:c="Runner"
  ·subst hc1;rw[ca1.a]at hn;cases hn;rw[if_pos rfl]at hf;simp only[Ae,Ba,or_false]at hf;refine⟨ca1.cl,?_⟩
   rcases hf with rfl|rfl|rfl|rfl
   ·exact cf1_0
   ·exact cf1_1
   ·exact cf1_2
   ·exact cf1_3
  rw[if_neg hc1]at hf
  by_cases hc2:c="Reckoner"
  ·subst hc2;rw[ca2.a]at hn;cases hn;rw[if_pos rfl]at hf;simp only[Ae,Ba,or_false]at hf;refine⟨ca2.cl,?_⟩
   rcases hf with rfl|rfl|rfl|rfl|rfl
   ·exact cf2_0
   ·exact cf2_1
   ·exact cf2_2
   ·exact cf2_3
   ·exact cf2_4
  rw[if_neg hc2]at hf;exact absurd hf Ba
 ·unfold l4 at hg ⊢;simp only at hg ⊢
  by_cases hg0:g="INNER_FROM"
  ·subst hg0;exact au6 X G ga0 gt0
  rw[if_neg hg0]at hg
  by_cases hg1:g="UNDER_ONE_MORE"
  ·subst hg1;exact au6 X G ga1 gt1
  rw[if_neg hg1]at hg;exact absurd rfl hg
 ·unfold l4 at hg;simp only at hg
  by_cases hg0:g="FEW"
  ·subst hg0;rw[if_pos rfl]at hg;cases hg;exact⟨_,HL X G kc0,kv0⟩
  rw[if_neg hg0]at hg
  by_cases hg1:g="WITHIN"
  ·subst hg1;rw[if_pos rfl]at hg;cases hg;exact⟨_,HL X G kc1,kv1⟩
  rw[if_neg hg1]at hg;cases hg
 ·
  rw[(by decide+kernel:l4.cls "!is"=([]:List Str))]at hc;cases hc
end Ek
namespace PySem.W.Fast
local macro_rules|`(command|include $x*)=>do return Lean.mkNullNode (← x.mapM fun i=>Lean.MonadRef.withRef .missing `(command|theorem $i:ident:True:=⟨⟩))
include tw14658985921017958351 tw5696122683427130598 tw15749324707701661025 tw4229194489726771826 tw14781237119311427435 tw10829900525029641648 tw13784832559761412994 tw17872042440368296410 tw11194482779413438621 tw18312323251493323183 tw6285095819468205537 tw10556557979139171183 tw16963897747241752756 tw2294536925973843322 tw11016767284958179084 tw15434208198233741197 tw9798084253163871633 tw8291064453293070730 tw9487780243827067374 tw14295583893678925607 tw12667880881240954088 tw10250678949868864104 tw10154230540077586469 tw5194626586043763152 tw1082399688223251750 tw10210506664548090987 tw9032300385911635369 tw3515055323735971790 tw11990651446070367675 tw7667274701438685050 tw3713198261581489266 tw7580495727686661718 tw2737073258571522045 tw2903740700228363912 tw3385725906438293667 tw15436004932932999940 tw12592589412949266228 tw5509273611525775803 tw13677113643880178794 tw15720098806052538384 tw4428497937927158705 tw7986808572360513348 tw18236224398369169767 tw17667369122806536567 tw9273773782587477797 tw4790623608118078417 tw17489332374536377958 tw14705801700760315939 tw14568244316297063023 tw10597137776979301317 tw10462913627439021367 tw873993034144588736 tw11935727608016254302 tw2604743050952841886 tw13329367788711311344 tw17253499122758916493 tw18158336987176831502 tw1521432898080159152 tw5368564972181155710 tw17274975661388811285 tw9347970979858504547 tw6486452440835118896 tw18162637810015921675 tw2889062967450116568 tw5839540571623139857 tw12700106073623239873 tw16961031493878203590 tw14361796696163043917 tw14114077904601288013 tw15720004762044182669 tw7393645541592656301 tw9131985830447420262 tw306711650186210478 tw6779495445231085389 tw2476041227441503742 tw16873857297091513211 tw11407980086704466835 tw15495139793146983832 tw15541591665971026573 tw885317023850060122 tw1255174593806100544 tw12120886210575278859 tw17211292261245254260 tw5000598970353465459 tw1171806312255559284 tw10293670972356348170 tw4515077915842211837 tw582802029820493556 tw13228238754644198371 tw16754840225642407586 tw6230767488000395771 tw12086112029939212093 tw5472541277223605191 tw9532251186076260685 tw7498828225594703383 tw2409103914525063084 tw6550803520611800192 tw8345446367019394146 tw7417903274264263350 tw11343014078963013370 tw13741411634230122134 tw9850512219825507844 tw9935094889658281395 tw15894389325217270609 tw10297527952506556023 tw12112231807077927353 tw11340983470441090438 tw14456597665061826186 tw9043603434193990531 tw6764168565649668832 tw3967407707360981467 tw7763583597864263238 tw15227392763671009302 tw13458025884313769769 tw14530990977537293514 tw7006939110729177513 tw5375092447089995014 tw11734739549475041078 tw13123246807342207958 tw13975913206675174581 tw15609517749479724819 tw17518423498100263926 tw13173617355519837531 tw6955119289112942235 tw12487230087097715923 tw8551781273654402602 tw2346125193955010165 tw6684794527192998712 tw16120488349388114944 tw11334531117804175966 tw9106507470457328795 tw3866320458537418770 tw15240280484551844882 tw16955301279172329129 tw14987369998843635677 tw15483810501225285920 tw15237760063106709594 tw1446859259831945270 tw17171283390153397099 tw1676869925050562703 tw6689135095434588247 tw17821003132742467294 tw2485043959958669170 tw13689673401753671924 tw9813703992175228744 tw5148377322757430105 tw2441340716929112338 tw1394964658076648326 tw2284044749241208076 tw16428133297251071700 tw17832800293192871101 tw15848600860833009904 tw3572291834857837682 tw2560037007308156865 tw16909316482280827902 tw13215844304050313578 tw15732309993041318 tw689332493658915069 tw518923253727678508 tw2413626000113381351 tw12275517133770379962 tw11716470987261842728 tw7733954416608208733 tw14008960507547629602 tw2340184195510021379 tw5622869002397829381 tw3001628221700973537 tw763444079729052272 tw1236981562054329369 tw6372651092689753592 tw5041679690678742498 tw6963478596814541864 tw9645817070900822538 tw6430868849481951816 tw15336213738226422665 tw9719324892088705801 tw6947378337488778830 tw14601342919185026524 tw2038096205942507883 tw8584452149428397305 tw17388812375546707030 tw8082579864928670579 tw9979388176977583840 tw15225845359648766698 tw8471203744549004411 tw6257701366439674022 tw4010648491190397133 tw7824189738536572970 tw7696721079410685786 tw16567555402341071090 tw18158439161258935986 tw2898780158473335678 tw6439766810943905948 tw8374972506085985499 tw600681697885195689 tw9829233273751242317 tw4006668861821724135 tw1054908165546136410 tw5155545450948245931 tw16354989410645684986 tw10188111598713730527 tw14134727285480858487 tw13815986041763963997 tw3449622528743651303 tw14847938371751074730 tw13246481244949406940 tw14398375387268320750 tw9018892549846326937 tw2465030156658155938 tw16042979382644290134 tw11205861691549859148 tw11752242851727331501 tw673407182437302733 tw8341483341108543755 tw13597856943186014479 tw17949160790017002215 tw2954510730137370600 tw10042414579998653099 tw3095844063156325645 tw7338546376734073117
end PySem.W.Fast
open PySem PySem.W PyProof.Rows
set_option maxRecDepth 100000 in
set_option maxHeartbeats 0 in
theorem PySem.Challenge.cw_evenkinds_k52_whole_runs_and_their_steps_holds : PySem.Challenge.rw_evenkinds_k52_whole_runs_and_their_steps.Holds := by
 w_on;o_law;k_head;(case hw=>w_witness2)
 k_fill
 refine Ek.bv6 (l:=PySem.Challenge.rw_evenkinds_k52_whole_runs_and_their_steps) (P:=Ek.P8) (G:=Ek.l4) (n:=690) (x:="_law_script") (dl:=Ek.U2) rfl rfl rfl ⟨rfl,∅,∅⟩ (λw h Y=>⟨W.km_in_of Y,W.km_tabs_of Y⟩) rfl ?hst ?F Ek.bi1
 case hst=>
  intro st ps S;have e:=S.sc.pre;have e2:=S.np;rw[e2]at e;exact e.symm
 case F=>
  intro w mg h KX G
  refine' Ek.b35 KX G ?_ ?_ ?_ ?_ ?_ ?_ ?_ ?_ ?_ ?_ ?_ ?_ ?_ ?_ ?_ ?_ ?_ ?_ ?_ ?_ ?_ ?_ ?_ ?_ ?_ ?_ ?_ ?_ ?_ ?_ ?_ ?_ ?_ ?_ ?_ ?_ ?_ ?_ ?_ ?_ ?_ ?_ ?_ ?_ ?_ ?_ ?_ ?_ ?_ ?_ ?_ ?_ ?_ ?_ ?_ ?_ ?_ ?_ ?_ ?_ ?_ ?_ ?_ ?_ ?_ ?_ ?_ ?_ ?_ ?_ ?_ ?_ ?_ ?_ ?_
  rotate_left 7
  iterate 6 (refine' Ek.fnA ?a ?b ?c ?d;(case a=>k_is);(case b=>k_is);(case c=>k_is);(case d=>k_is))
  (refine' Ek.fnM ?a ?b ?c ?d ?e ?f ?g;(case a=>k_is);(case b=>k_is);(case c=>k_is);(case d=>k_is);(case e=>rfl);(case f=>kernel_rfl);(case g=>decide))
  (refine' Ek.fnA ?a ?b ?c ?d;(case a=>k_is);(case b=>k_is);(case c=>k_is);(case d=>k_is))
  (refine' Ek.fnM ?a ?b ?c ?d ?e ?f ?g;(case a=>k_is);(case b=>k_is);(case c=>k_is);(case d=>k_is);(case e=>rfl);(case f=>kernel_rfl);(case g=>decide))
  (refine' Ek.fnD ?a ?b ?c ?d ?e;(case a=>k_is);(case b=>k_is);(case c=>k_is);(case d=>k_is);(case e=>k_is))
  iterate 5 (refine' Ek.fnA ?a ?b ?c ?d;(case a=>k_is);(case b=>k_is);(case c=>k_is);(case d=>k_is))
  (refine' Ek.fnM ?a ?b ?c ?d ?e ?f ?g;(case a=>k_is);(case b=>k_is);(case c=>k_is);(case d=>k_is);(case e=>rfl);(case f=>kernel_rfl);(case g=>decide))
  iterate 19 (refine' Ek.fnA ?a ?b ?c ?d;(case a=>k_is);(case b=>k_is);(case c=>k_is);(case d=>k_is))
  (intro b hb;simp only[Ek.J8,Ae]at hb;(repeat' (rcases hb with rfl|hb))<;>k_is)
  k_is
  rfl
  k_is
  rfl
  k_is
  kernel_rfl
  k_is
  kernel_rfl
  k_is
  iterate 3 (refine' Ek.clA ?a ?b ?c ?d ?e ?f ?g;(case a=>k_is);(case b=>k_is);(case c=>k_is);(case d=>k_is);(case e=>k_is);(case f=>k_is);(case g=>k_is))
  iterate 16 k_is
  iterate 8 (refine' Ek.mtA ?a ?b ?c ?d ?e ?f;(case a=>k_is);(case b=>k_is);(case c=>k_is);(case d=>k_is);(case e=>k_is);(case f=>k_is))
  iterate 3 rfl
#print axioms PySem.Challenge.cw_evenkinds_k52_whole_runs_and_their_steps_holds
