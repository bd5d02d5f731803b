import PyProof.Rows.All
import PyProof.TupleKey
import PyProof.P3Eq
import PyProof.DictKinds
import Wide.All
import OpenK.AllK
import Wide.FinOn
import Lean
import PyProof.EqAt
import PyProof.EqKinds
import PyProof.TupleCall
import PyProof.StrBlockL
import PyProof.ZipIter
import PyProof.ListNew
import KE.KRevIter
import KE.KIntText
import PyProof.StrLawsIn
import KE.LcSums
import PyProof.EnumStmt
import PyProof.AttrMissHeap
import KE.KDictOf
import PySem.Challenge.RW_evenkinds_k63_whole_every_table
set_option Elab.async false
set_option maxHeartbeats 4000000
set_option compiler.extract_closed false
set_option genSizeOf false
set_option bootstrap.genMatcherCode false
set_option linter.all false
local macro_rules|`(command|abbrev $i:declId $s:optDeclSig $v:declVal)=>Lean.MonadRef.withRef .missing `(command|noncomputable def $i:declId $s:optDeclSig $v:declVal)
local macro_rules|`(command|def $i:declId $b* :$t $v:declVal)=>Lean.MonadRef.withRef .missing `(command|noncomputable def $i:declId $b* :$t $v:declVal)
local macro_rules|`(⋯)=>`(by lia)
local macro_rules|`(∅)=>`(by decide)
local macro_rules|`(∎)=>`(by simp)
open List (mem_cons mem_filter length_cons length_nil getElem?_eq_getElem append_assoc getElem?_cons_succ)
open Nat (mul_one)
open Bool (false_eq_true not_eq_true')
open PySem.Heap (size_push)
open Option renaming some->AA,none->AD,isSome_iff_exists->Bh,map_eq_some_iff->Br,isSome_some->FR,isSome_map->Fe,map_some->GZ,casesOn->Gk,getD_none->Ic,isNone->JV
open PySem renaming wpAny_bind->AB,Value->AG,Addr->AH,Shared->AJ,wpAny_pure->AL,mainGlobals->AO,wpAny->AR,Expr->AS,PyData->Ak,Program->Al,starEach->An,wpAny_field->Aw,World->Ay,Heap->BI,wpAny_call_entry->BM,wpAny_callSpecial?_slot->BO,Scope->BS,Around->BW,wpAny_newObj_type->Ba,Stmt->Bf,wpAny_seqItems->Bk,wpAny_specialOf->Bm,bootBuiltins->Bn,wpAny_mono->Bq,FuncData->Bt,cLine->Bv,compareOp->By,backTo->CH,wpAny_holding->CO,assignEach->CS,wpAny_Call_Name_kw->CT,wpAny_setField_rec->CU,builtinLookup_eq_fast->CV,sysModules->Cc,behindInMarks->Cd,rawInt->Ch,wpAny_setField->Cj,IsPair->Cq,wpAny_passesOwn->Cu,swapsWith->Cw,attributeBase->Cy,Arguments->Cz,wpAny_truthy_bool->DC,builtinsNs->DG,Builtin->DV,typeLookup_type->DW,keywordEach->Da,wpAny_of_eq->Db,foldedSetIterable->Dn,binaryOp->Do,firstArgMember->Dq,FuncBody->Dr,isSubtype_type->Ds,CmpOp->Dw,DictEntry->Dy,wpAny_isInstance->Dz,codeAny->EC,wpAny_attempt->ED,bindArgs->EG,sliceBounds->EI,TriplesOk->EX,wpAny_rule->Eb,pyNext->Ec,call_meets->Ed,methodCallForm->Ee,eqIsQuiet_byValue->El,getItem->Em,wpAny_pyHash_str->Ew,Operator->Ey,backToKw->FA,letOwnedTupleGo->FQ,wpAny_loadPart'->FT,sizeLine_eq->Fp,NameKind->Fq,wpAny_pyIter_revIter->Ft,wpAny_updateSeq_pair->Fw,codeAmong->GE,swapsWithSole->GX,wpAny_onRaise->Ga,typeLookup->Ge,BindsTo->Gr,codeAny_mono->Gu,valueAt->Gw,wpAny_pyHash_int->HH,PassesOwn->HI,pyIter->HJ,noFill_tuple_add->HL,IsPart->HM,seqIndex?->HN,wpAny_mkInt->HZ,loadIfAlive->Hb,wpAny_letGo->Hd,wpAny_execs_nil->Hi,wpAny_updateSeq->Hj,standAt->Hm,Keyword->Hq,callerA->Hs,isTrue->Hy,Result->IC,recursionLimit->ID,atKey->IE,closureFor->IF,ZipApart->IH,wpAny_standAt->IQ,seq_tuple_add->IR,wpAny_comprehension_free->IT,wpAny_handled->IU,Comprehension->IY,bindL->Ia,bindC->Ib,concat_meets->Im,seqIndex_neg->Io,wpAny_Call_method_late->Iq,newExc->Iw,revObj->Ix,callType_new->Iz,wpAny_isTrue_Compare1->JC,getitemInPython_of_ne->JE,wpAny_pyNext_rev_item->JF,seqIndex_of->JM,wpAny_letTemporaryGo->JP,wpAny_newFunctionEnv->JQ,wpAny_throw->JR,wpAny_pyNext_rev_end->JS,wpAny_Name->Jk,call_reversed_list->Jr,wpAny_pyIter_tuple->Jt,setItem->KB,wpAny_assign_Name->KC,wpAny_sequenceKey->KD,slot_list_getitem->KG,wpAny_Call_method->KJ,wpAny_pyIter_enum->KM,dictGet->KN,slot_dict_getitem->KO,wpAny_pyIter_list->KP,wpAny_pyIter_slot->KQ,beq_builtin_none->KW,wpAny_forIn_list->KY,getMethod->Ka,cellsFrom->Kf,wpAny_operating->Kt,codeAny_builtin->Kw,wpAny_Compare1->LC,IntMulOk->LD,wpAny_notIn_of->LG,letTemporaryGo->LH,cellOf->LJ,compEnvC->LK,newFunctionEnv->LM,newTuple->LN,raiseNew->LO,IsEnum->LP,argsOk->LR,setField->LS,isSubtype_stop->LU,BoolOp->LV
open Bool renaming true->AC,false->AF,false_ne_true->AI,and_eq_true->BL,false_eq_true->Bj,and_self->Cm,not_true->Dl,eq_iff_iff->Gi,not_eq_true'->Gx,false_or->HX,and_eq_true_iff->IL,and_false->Je,or_false->Jp,or_eq_true->Jv
open Decidable renaming decide->AE
open List renaming mem_cons->AK,getElem?_eq_getElem->AM,length_map->AT,length_cons->AW,getElem?_eq_some_iff->AX,map_cons->AZ,not_mem_nil->Aa,length_append->Ac,size_toArray->Ad,map_append->Ae,getElem?_append_left->Ag,getElem?_map->Aj,mem_singleton->Am,append_nil->Ao,mem_append->Ap,mem_map->Aq,mem_cons_of_mem->As,mem_of_getElem?->At,getElem?_append_right->Au,cons_append->BB,eq_nil_of_length_eq_zero->BD,nil_append->BH,length_nil->BK,map_map->BN,replicate->BP,mem_append_right->BQ,nodup_cons->BU,append_assoc->BV,mem_flatMap->Be,getElem?_eq_none->Bu,mem_cons_self->Bw,map_flatMap->CA,length->CB,map_nil->CG,find?_cons->CJ,reverse_cons->CM,flatMap_cons->CN,take_of_length_le->CZ,mem_flatten->Cb,nodup_append->Cr,drop_eq_getElem_cons->DF,prefix_refl->DI,lookup->DM,zip_cons_cons->DR,getElem?_replicate->DX,length_take->DZ,range->Dj,filterMap_cons->Dm,sum_cons->Dt,flatten_append->Du,length_singleton->EA,sum_append->EB,casesOn->EE,length_drop->EH,lookup_cons->EJ,all_eq_true->EL,flatMap_map->EM,mem_append_left->EQ,getElem?_cons_succ->Ef,take_length->Eo,drop_of_length_le->Ep,length_replicate->Ez,getElem?_reverse->FB,take_append_drop->FC,mem_iff_getElem?->FD,mem_iff_getElem->FH,any_eq_false->FI,length_reverse->FU,replicate_succ->FW,map_congr_left->FX,mem_map_of_mem->FY,take_succ_cons->FZ,flatMap_assoc->Fm,any_cons->Fs,flatMap_append->Fy,reverse_append->GB,getElem?_set->GD,map->GI,eraseIdxIfInBounds_toArray->GM,of_mem_zip->Gc,forIn_cons->Gf,sum_nil->HB,ext_getElem?->HE,getElem?_eq_none_iff->HR,mem_or_eq_of_mem_set->HU,getElem?_take_of_lt->HW,drop_length->He,any_eq_true->Hf,map_reverse->Hg,filter_cons->Hh,getElem?_set_self->Hl,length_zip->IG,getElem?_set_ne->IJ,reverse_reverse->IM,mem_filterMap->IZ,getElem?_drop->Ie,drop_zero->Ig,take_sublist->Il,zipIdx_cons->JG,append_inj'->JI,reverse_nil->JJ,take_left'->JT,getElem_mem->JU,zipIdx_nil->JX,mapIdx_cons->Jb,nodup_nil->Jf,map_take->Jw,map_drop->Jx,map_set->KU,forIn_nil->Kk,take_zero->Kq,drop->LW
open PySem.Heap renaming get?_push_of_some->AN,get?_push_size->Ai,lt_size->Ax,SameBut->Bc,get?_update_self->CP,size_push->Ci,get?_update_other->DU,ExtBut->FG
open PySem.W renaming Frag->AQ,nsIn->BJ,findIn->Bg,keepIn->CI,codeHdIn->CY,emptyDict->DD,fnOf->Dh,codeIn->Di,callWith_K->ER,instObj->ES,plainGet->GL,hasDictIn->HG,methodCall_KW->HQ,tabObj->Hk,plainGet_of->IB,makesIn->IK,mg_of->IX,methodObj->Ih,lookIn->Ii,plainOver->Ij,noTabs->JB,isFn->JL,takerIn->Jm,cellsFrom_some->Jn,callWith_K0->Kr,codeHd_of_K->Kz
open False renaming elim->AU
open PySem.Str renaming ofString->AV
open List.cons renaming injEq->AY
open Nat renaming le_refl->Ab,lt_of_lt_of_le->Ar,ne_of_lt->BR,pow_le_pow_right->BX,le_trans->Bd,zero_le->Bx,mul_le_mul_right->CQ,mul_le_mul->Cs,lt_irrefl->DL,lt_succ_self->ET,add_mul->EU,add_assoc->EV,min->EW,one_mul->Er,ne_of_gt->Ex,mul_one->FP,pow_le_pow_left->Fc,add_sub_cancel->Fu,pow_succ->Fx,mul_assoc->GH,lt_succ_of_lt->GN,min_eq_right->Gg,le_of_lt->Gp,min_le_right->Gv,le_add_right->Gz,min_eq_left->HA,add_sub_cancel_left->Hv,mul_add->Hw,add_comm->II,le_succ->Ik,lt_of_le_of_lt->Iv,succ_le_succ->JN,succ_ne_self->JW,add_zero->JZ,mul_zero->Ja,min_le_left->Jc,strongRecOn->Jj,le_of_eq->Kb,sub_zero->Kl,zero_pow->Km,pow_zero->Ko,pow_pos->LB,not_lt->LL,max_zero->LX,mul_comm->LY,zero_mul->LZ,zero_add->La
open PySem.Builtin.SmallTypes renaming nextOf->Af,ownedTupleIsFree->Ah,ownedTupleHandOut->EN
open PySem.PyData renaming eqv->Av,eqvAll->BY,depthAll->BZ,depth->CC,canLay0->CW,canLayAll0->DP,strOk->Ji
open PyProof.Rows renaming callWith_type1->Az,Good->DH,slot_tuple_getitem->DJ,slot_tuple_getitem->DY,subscriptTail->GY,IsTup->Gn,AllBare->Go,envOfC->HK,Call_->IA,Constant_none->IP,getItem_tuple->IS,subscriptTail_builtinR->Ip,IntsAre->Iu,Subscript_->Jo,callWith_builtin1->Ks,slicePart_none->LF
open Option.some renaming inj->BA,injEq->Cf
open PySem.Value renaming ref->BC,none->Bz,type->De,int->FE,str->FF,bool->Fa,isInt_shape->Fn,isInt->GW,isStrOf->Jd,bytes->Jy,float->Jz
open Ne renaming symm->BE
open PySem.NameKind renaming free->BF
open PySem.Obj renaming data_mapFields->Bb,isFreed_of_fields->Co,mapSeq->DN,cls_mapFields->GO
open Sum renaming inr->Bi,inl->GK
open PySem.Heap.SameBut renaming update->Bl
open PySem.Builtin.Tuple renaming tupleHashOf->Bo,tupleExact->Cn,tupleItemsOf->Dd
open Function renaming comp_def->Bp
open ForInStep renaming yield->Bs
open PySem.Calls renaming callWith_builtin->CD,spliced_cons->Cg,evalArgs_plain->Cv,spliced_nil->DQ,Name_function_global->Gq
open PyProof.Rows.KTD renaming datumAt->CK
open PySem.Builtin.List renaming listTooLong->CL,listExtendWith->Ce,listSameRef->GF,listItems->Gb,listLengthHint->Kx,listUpdate->Ky
open PySem.Builtin.Slice renaming slicePlaces->Ck,sliceAdjust->Dp,sliceApplied->Fb,slicePartIndex->Kg,sliceFields->Kh
open Int renaming toNat_natCast->Ct,emod_lt_of_pos->GA,emod_nonneg->HC,natCast_mul->HD,toNat->JY,le_refl->LA
open PySem.F renaming slot_tuple_iterator_next->DE,slot_zip_next->EK,plain_extend_loop->EO,slot_tuple_hash->Eg,args_tuple_iterator_next_1->HP,entry_tuple_iterator_next->HY,args_list_extend_2->Ir,args_object_init_2->JA,entry_list_extend->JD,entry_extend_loop->JH,slot_list_extend->JO,args_zip_next_1->Jh,entry_list_pop->Jq,entry_zip_next->Ju,slot_list_pop->KH,slot_zip_iter->KR
open PySem.Builtin.Int renaming intBits->Dc,intTooBig->Gh
open True renaming intro->Dk
open List.Pairwise renaming map->Dv,nil->Kj
open Array renaming length_toList->Dx,toList_append->FJ,getElem?_eq_some_iff->Gy,getElem?_toList->Hr,forIn_toList->IN,toList->Jl
open PySem.Stmt.FunctionDef renaming elim->EF
open PySem.Expr.Attribute renaming elim->EY
open PySem.Expr.Subscript renaming elim->EZ
open PySem.Arg renaming arg->Ea
open PySem.Expr.ListComp renaming elim->Eh
open PySem.Expr.Constant renaming elim->Ei
open PySem.Stmt.Continue renaming elim->Ej
open PySem.Expr.UnaryOp renaming elim->Et
open PySem.Expr.Compare renaming elim->Eu
open PySem.Expr.BoolOp renaming elim->FK
open PySem.Expr.Lambda renaming elim->FL
open PySem.Stmt.Assign renaming elim->FM
open PySem.Stmt.Return renaming elim->FN
open Nat.succ renaming inj->FV
open PySem.Expr.BinOp renaming elim->Fg
open PySem.Expr.IfExp renaming elim->Fh
open PySem.Expr.Tuple renaming elim->Fi
open PySem.Expr.Slice renaming elim->Fj
open PySem.Stmt.While renaming elim->Fk
open Char renaming toNat->Fl
open Std.Legacy.Range renaming size->Fv,forIn_eq_forIn_range'->Jg
open Sum.inr renaming inj->GC
open PySem.SeqAt renaming eqAt_reads->GJ,rcNeAt_reads->IV,EqAt->IW,rcAt_reads->Iy
open PySem.Shared renaming heap->GP
open PySem.Expr.Dict renaming elim->GQ
open PySem.Expr.Call renaming elim->GR
open PySem.Expr.Name renaming elim->GS
open PySem.Expr.List renaming elim->GT
open PySem.Stmt.Expr renaming elim->GU
open PySem.Stmt.Pass renaming elim->GV
open PySem.AutoSeq1 renaming wpAny_loadPart'->Gj
open PySem.Stmt.For renaming elim->Gm
open PySem.Stmt.If renaming elim->HS
open PySem.Around renaming under->HV,frames_deeper->Ho,under_plainId->Hu
open PySem.Code renaming isFrame->Hn,frames->Ke
open PySem.BindsTo renaming of_defaults->Hx
open PySem.CmpOp renaming NotIn->Hz
open Prod.mk renaming injEq->JK
open PySem.Heap.IsSliceOf renaming new->KF
open PySem.W.WShape renaming has->KL
open Eq renaming trans->KS
open PySem.Builtin.Range renaming rangeSize->KZ
open LawfulBEq renaming eq_of_beq->Ki
open PySem.W.WData renaming int->Ku
open PySem.Builtin.Dict renaming missed->Kv
open PySem.Heap.DictOf renaming new->LI
open PySem.SeqAt.Reads renaming unique->LQ
theorem oe1{α:Sort u}{p:α->Prop}{G:Prop}(h:∃a,p a)(k:∀a,p a->G):G:=h.elim k
theorem oe2{α:Sort u}{β:Sort v}{p:α->β->Prop}{G:Prop}(h:∃a b,p a b)(k:∀a b,p a b->G):G:=oe1 h λa h=>oe1 h (k a)
theorem oe3{α:Sort u}{β:Sort v}{γ:Sort w}{p:α->β->γ->Prop}{G:Prop}(h:∃a b c,p a b c)(k:∀a b c,p a b c->G):G:=oe1 h λa h=>oe2 h (k a)
theorem oe4{α:Sort u}{β:Sort v}{γ:Sort w}{δ:Sort x}{p:α->β->γ->δ->Prop}{G:Prop}(h:∃a b c d,p a b c d)(k:∀a b c d,p a b c d->G):G:=oe1 h λa h=>oe3 h (k a)
theorem oe5{α:Sort u}{β:Sort v}{γ:Sort w}{δ:Sort x}{ε:Sort y}{p:α->β->γ->δ->ε->Prop}{G:Prop}(h:∃a b c d e,p a b c d e)(k:∀a b c d e,p a b c d e->G):G:=oe1 h λa h=>oe4 h (k a)
theorem oe6{α:Sort u}{β:Sort v}{γ:Sort w}{δ:Sort x}{ε:Sort y}{ζ:Sort z}{p:α->β->γ->δ->ε->ζ->Prop}{G:Prop}(h:∃a b c d e f,p a b c d e f)(k:∀a b c d e f,p a b c d e f->G):G:=oe1 h λa h=>oe5 h (k a)
theorem oa2{A B G:Prop}(h:A∧B)(k:A->B->G):G:=k h.1 h.2
theorem oa3{A B C G:Prop}(h:A∧B∧C)(k:A->B->C->G):G:=oa2 h.2 (k h.1)
theorem oa4{A B C D G:Prop}(h:A∧B∧C∧D)(k:A->B->C->D->G):G:=oa3 h.2 (k h.1)
theorem oa5{A B C D E G:Prop}(h:A∧B∧C∧D∧E)(k:A->B->C->D->E->G):G:=oa4 h.2 (k h.1)
theorem oa6{A B C D E F G:Prop}(h:A∧B∧C∧D∧E∧F)(k:A->B->C->D->E->F->G):G:=oa5 h.2 (k h.1)
theorem oa7{A B C D E F H G:Prop}(h:A∧B∧C∧D∧E∧F∧H)(k:A->B->C->D->E->F->H->G):G:=oa6 h.2 (k h.1)
theorem oa8{A B C D E F H I G:Prop}(h:A∧B∧C∧D∧E∧F∧H∧I)(k:A->B->C->D->E->F->H->I->G):G:=oa7 h.2 (k h.1)
open Lean in
local macro_rules|`(tactic|obtain⟨$ps,*⟩:=$e:term)=>do
 let ps:=ps.getElems
 let n:=ps.size
 let rec br(f:Nat)(s:Syntax):Bool:=match f with
  |0=>false
  |f+1=>s.getKind==``Lean.Parser.Tactic.rcasesPatMed&&s[0].getArgs.size>1||s.getArgs.any (br f)
 if n<2||ps.any (br 20 ·) then
  Macro.throwUnsupported
 let rec pl(f:Nat)(s:Syntax):Syntax:=match f with
  |0=>s
  |f+1=>if s.isIdent then s else if s.getArgs.size==1&&s.getKind != ``Lean.Parser.Tactic.rcasesPat.ignore||s.getArgs.size==2&&s[1].getArgs.size==0 then pl f s[0] else s
 let mut ts:Array (Array (TSyntax `tactic)):=#[]
 for p in ps do
  let q:=pl 8 p.raw
  let j ← withFreshMacroScope `(z)
  let j:Ident:=⟨j.raw⟩
  if q.isIdent&&q.getId != `rfl then
   ts:=ts.push #[← `(tactic|intro $(⟨q⟩):ident)]
  else
   ts:=ts.push #[← `(tactic|intro $j:ident),← if q.isIdent then `(tactic|subst $j:ident) else if q.getKind==``Lean.Parser.Tactic.rcasesPat.ignore then `(tactic|skip) else if p.raw[1].getArgs.size==0 then `(tactic|obtain $(⟨p.raw[0]⟩):rcasesPatMed:=$j:ident) else `(tactic|rcases $j:ident with $p:rcasesPatLo)]
 let cl ← if e.raw.isIdent then `(tactic|try clear $(⟨e.raw⟩):ident) else `(tactic|skip)
 let mut al:Array (TSyntax ``Lean.Parser.Tactic.tacticSeq):=#[]
 for (c,b,t) in [("oe",1,6),("oa",2,8)] do
  for k' in [0:t] do
   let k:=t-k'
   let u:=if c=="oe" then k+1 else k
   if b<=k&&u<=n then
    let x:=mkIdent (.str .anonymous s!"{c}{k}")
    let mut pp:=(ts.extract 0 (if u==n then n else u-1)).foldl (·++·) #[]
    if u<n then
     let rs:=ps.extract (u-1) n
     pp:=pp ++ #[← `(tactic|intro h),← `(tactic|obtain⟨$rs,*⟩:=h)]
    al:=al.push (← `(Lean.Parser.Tactic.tacticSeq|refine $x $e ?_;$cl;$[$pp]*))
 `(tactic|first $[|$al]*|rcases $e:term with⟨$(ps),*⟩)
namespace PySem
noncomputable instance decPyData:DecidableEq Ak:=λa b=>Classical.propDecidable (a=b)
namespace NK
mutual
noncomputable def lit:Ak->Bool
 |.int _=>AC
 |.str x=>CW (.str x)
 |.tuple ds=>lits ds
 |_=>AF
noncomputable def lits:List Ak->Bool
 |[]=>AC
 |d::r=>lit d&&lits r
end
mutual
theorem as5:∀d:Ak,lit d=AC->d.canLay0=AC
 |.int _,_=>rfl
 |.str _,h=>h
 |.tuple ds,h=>by rw[CW];exact a97 ds h
 |.none,h=>nomatch h
 |.bool _,h=>nomatch h
 |.list _,h=>nomatch h
 |.dict _,h=>nomatch h
theorem a97:∀ds:List Ak,lits ds=AC->DP ds=AC
 |[],_=>rfl
 |d::r,h=>by
  have h':lit d=AC/\lits r=AC:=by simpa[lits]using h
  show(d.canLay0&&DP r)=AC;rw[as5 d h'.1,a97 r h'.2];rfl
end
mutual
theorem eqv_lit:∀x y:Ak,lit x=AC->lit y=AC->(Av x y=AC↔x=y)
 |.int i,.int j,_,_=>by rw[Av];simp
 |.int i,.str y,_,_=>by simp[Av]
 |.int i,.tuple ys,_,_=>by simp[Av]
 |.str x,.int j,_,_=>by simp[Av]
 |.str x,.str y,_,_=>by rw[Av];simp
 |.str x,.tuple ys,_,_=>by simp[Av]
 |.tuple xs,.int j,_,_=>by simp[Av]
 |.tuple xs,.str y,_,_=>by simp[Av]
 |.tuple xs,.tuple ys,hx,hy=>by rw[Av,bc2 xs ys hx hy];simp
 |.none,_,h,_=>nomatch h
 |.bool _,_,h,_=>nomatch h
 |.list _,_,h,_=>nomatch h
 |.dict _,_,h,_=>nomatch h
 |_,.none,_,h=>nomatch h
 |_,.bool _,_,h=>nomatch h
 |_,.list _,_,h=>nomatch h
 |_,.dict _,_,h=>nomatch h
theorem bc2:∀xs ys:List Ak,lits xs=AC->lits ys=AC->(BY xs ys=AC↔xs=ys)
 |[],[],_,_=>by simp[BY]
 |[],y::ys,_,_=>by simp[BY]
 |x::xs,[],_,_=>by simp[BY]
 |x::xs,y::ys,hx,hy=>by
  have hx':lit x=AC/\lits xs=AC:=by simpa[lits]using hx
  have hy':lit y=AC/\lits ys=AC:=by simpa[lits]using hy
  rw[BY,BL,eqv_lit x y hx'.1 hy'.1,bc2 xs ys hx'.2 hy'.2];simp
end
theorem ar8:∀{b},lits b=AC->∀d∈b,lit d=AC
 |[],_,d,h=>by cases h
 |e::r,c,d,h=>by
  have a:=by simpa[lits]using c
  rcases AK.mp h with rfl|h
  ·exact a.1
  ·exact ar8 a.2 d h
theorem ap8:∀{a}{d},d∈a->d.depth<=BZ a
 |e::r,d,h=>by
  show d.depth<=max e.depth (BZ r)
  rcases AK.mp h with rfl|h
  ·lia
  ·have:=ap8 h;lia
def depth_tup{ds}:(PyData.tuple ds).depth=BZ ds+1:=by rw[CC]
mutual
theorem bj3{h:BI}:∀(x y:Ak){v:AG}{as bs:List AH},lit x=AC->lit y=AC->Reads h v x as->Reads h v y bs->x=y
 |.int i,y,v,as,bs,_,hy,rx,ry=>by
  cases rx;cases ry;rfl
 |.str x,y,v,as,bs,_,hy,rx,ry=>by
  cases rx;cases ry;rfl
 |.tuple xs,y,v,as,bs,hx,hy,rx,ry=>by
  cases rx with
  |tuple e1 e2 e3 e4=>
   cases ry with
   |tuple f1 f2 f3 f4=>
    rw[e1]at f1;cases f1;rw[e3]at f3;cases f3;rw[bf0 xs _ hx hy e4 f4]
   |list=>cases hy
   |dict=>cases hy
 |.none,_,_,_,_,h,_,_,_=>nomatch h
 |.bool _,_,_,_,_,h,_,_,_=>nomatch h
 |.list _,_,_,_,_,h,_,_,_=>nomatch h
 |.dict _,_,_,_,_,h,_,_,_=>nomatch h
theorem bf0{h:BI}:∀(xs ys:List Ak){vs:List AG}{as bs:List AH},lits xs=AC->lits ys=AC->ReadsAll h vs xs as->ReadsAll h vs ys bs->xs=ys
 |[],ys,vs,as,bs,_,_,rx,ry=>by cases rx;cases ry;rfl
 |x::xs,ys,vs,as,bs,hx,hy,rx,ry=>by
  cases rx with
  |cons r1 r2=>cases ry with
   |@cons _ _ y ys _ _ q1 q2=>
    have hx':lit x=AC/\lits xs=AC:=by simpa[lits]using hx
    have hy':lit y=AC/\lits ys=AC:=by simpa[lits]using hy
    rw[bj3 x y hx'.1 hy'.1 r1 q1,bf0 xs ys hx'.2 hy'.2 r2 q2]
end
mutual
theorem bd7{h h':BI}{d:AH}{o:Obj}{es:Array Dy}{ep:Nat}(ho:h.get? d=AA o)(hd:o.data=.dict es ep)(hs:Bc d h h'):∀(x:Ak){v:AG}{as:List AH},lit x=AC->Reads h v x as->∃bs,Reads h' v x bs
 |.int i,v,as,_,r=>by cases r;exact⟨_,.int _ _⟩
 |.str x,v,as,_,r=>by cases r;exact⟨_,.str _ _⟩
 |.tuple xs,v,as,hx,r=>by
  cases r with
  |@tuple a o' _ _ _ _ e1 e2 e3 e4=>
   have hne:a≠d:=by
    rintro rfl;rw[e1]at ho;cases ho;rw[hd]at e3;exact nomatch e3
   obtain⟨bs,r'⟩:=bc6 ho hd hs xs hx e4;exact⟨_,.tuple ((hs.2 a hne).trans e1) e2 e3 r'⟩
 |.none,_,_,h,_=>nomatch h
 |.bool _,_,_,h,_=>nomatch h
 |.list _,_,_,h,_=>nomatch h
 |.dict _,_,_,h,_=>nomatch h
theorem bc6{h h':BI}{d:AH}{o:Obj}{es:Array Dy}{ep:Nat}(ho:h.get? d=AA o)(hd:o.data=.dict es ep)(hs:Bc d h h'):∀(xs:List Ak){vs:List AG}{as:List AH},lits xs=AC->ReadsAll h vs xs as->∃bs,ReadsAll h' vs xs bs
 |[],vs,as,_,r=>by cases r;exact⟨_,.nil⟩
 |x::xs,vs,as,hx,r=>by
  cases r with
  |cons r1 r2=>
   have hx':lit x=AC/\lits xs=AC:=by simpa[lits]using hx
   obtain⟨b1,q1⟩:=bd7 ho hd hs x hx'.1 r1;obtain⟨b2,q2⟩:=bc6 ho hd hs xs hx'.2 r2;exact⟨_,.cons q1 q2⟩
end
mutual
noncomputable def hK(w:Ay):Ak->Int
 |.int i=>hashInt i
 |.str x=>hashStr w x
 |.tuple ds=>reduceHash (Bo (hKs w ds))
 |_=>0
noncomputable def hKs(w:Ay):List Ak->List Int
 |[]=>[]
 |d::r=>hK w d::hKs w r
end
mutual
noncomputable def dw:Ak->Nat
 |.tuple ds=>dws ds+1
 |_=>1
noncomputable def dws:List Ak->Nat
 |[]=>0
 |d::r=>dw d+dws r
end
theorem at5 w:∀a b,hKs w (a++b)=hKs w a++hKs w b
 |[],b=>rfl
 |x::a,b=>by rw[BB,hKs,at5 w a b];rfl
theorem as2:∀a b,dws (a++b)=dws a+dws b
 |[],b=>by simp[dws]
 |x::a,b=>by rw[BB,dws,as2 a b,dws,EV]
variable {prog:Al} {w:Ay}
def b90:∀(n:Nat)(d:Ak),d.depth<=n->lit d=AC->∀{A:BW}{E:AG->AJ->Prop}{s:AJ}{v:AG}{y:List AH}{Q:Int->AJ->Prop},A.units+n<Bv->Reads s.heap v d y->Q (hK w d) {s with toks:=s.toks+dw d}->AR (model prog w) A (pyHash v) Q E s:=by
 intro n
 induction n with
 |zero=>
  intro d I c A E s v y Q P r h;cases r with
  |int i t=>exact HH (by simpa[hK,dw]using h)
  |str x t=>exact Ew (by simpa[hK,dw]using h)
  |tuple=>rw[depth_tup]at I;lia
  |none=>cases c
  |bool=>cases c
  |list=>cases c
  |dict=>cases c
 |succ n O=>
  intro d I c A E s v y Q P r h;cases r with
  |int i t=>exact HH (by simpa[hK,dw]using h)
  |str x t=>exact Ew (by simpa[hK,dw]using h)
  |none=>cases c
  |bool=>cases c
  |list=>cases c
  |dict=>cases c
  |@tuple a o C m z y M S H R=>
   rw[depth_tup]at I;have G:lits z=AC:=c;have u:s.TypeIs (.ref a) "tuple":=⟨o,M,S⟩;unfold pyHash
   first|unfold pyHashByItsType|skip
   first|refine AB (wpAny_cRoomFor_or (.inr ⋯) ?_)|skip
   refine AB (Bm u Eg.lookup ?_);show AR _ _ (if(AA (Value.builtin "tuple.__hash__")==AA Bz)=AC then _ else _) Q E s;rw[if_neg (by rw[KW];exact AI)];refine AB (Bm u Eg.lookup ?_);show AR _ _ (callSpecialIfBoundUnlessNone? (.ref a) "__hash__" _>>=_) Q E s;refine AB (wpAny_callSpecialIfBoundUnlessNone?_slot u Eg (BM Eg u F.entry_tuple_hash ?_ (F.args_tuple_hash_1 _)));show AR _ _ (Dd (.ref a)>>=_) _ _ s;refine AB (wpAny_tupleItemsOf M H ?_);refine AB ?_;rw[<-IN];refine KY _
    (λl6(b:Array Int)s'=>∃done left J,z=done++left/\ReadsAll s.heap l6 left J/\b.toList=hKs w done/\s'={s with toks:=s.toks+dws done})
    _ ?_ ?_ _ _ ⟨[],z,_,rfl,R,rfl,rfl⟩
   ·rintro x l6 b s' ⟨done,left,J,rfl,hl2,hb,rfl⟩;cases hl2 with
    |@cons _ _ k f _ _ T j=>
     have N:k∈done++k::f:=by simp
     refine AB (O k (by have:=ap8 N;lia) (ar8 G k N) ?_ T ?_)
     ·show A.units+1+n<Bv;lia
     first
      |exact AL ⟨done++[k],f,_,∎,j,by rw[at5];simp[hb,hKs],by simp[as2,dws,EV]⟩
      |exact AB (AL (AL ⟨done++[k],f,_,∎,j,by rw[at5];simp[hb,hKs],by simp[as2,dws,EV]⟩))
   ·rintro b s' ⟨done,left,J,rfl,hl2,hb,rfl⟩;cases hl2;rw[Ao]at h;simp only[hK,dw]at h;show AR _ _ (retInt (Bo b.toList)) _ _ _;rw[hb];refine wpAny_ret_mkInt ?_;show AR _ _ (if(AE (-(2:Int)^63<=Bo (hKs w done))&&AE (Bo (hKs w done)<2^63))=AC then _ else _) Q E _;unfold reduceHash at h
    by_cases q:(AE (-(2:Int)^63<=Bo (hKs w done))&&AE (Bo (hKs w done)<2^63))=AC
    ·rw[if_pos q];rw[if_pos q]at h;exact AL (by simpa[EV]using h)
    ·rw[if_neg q];rw[if_neg q]at h;exact AB (Eb (AL (by simpa[EV]using h)))
def b12:∀(n:Nat)(d:Ak),d.depth<=n->lit d=AC->∀{A:BW}{E:AG->AJ->Prop}{s:AJ}{v:AG}{j:List AH}{Q:Bool->AJ->Prop},Reads s.heap v d j->Q AC s->AR (model prog w) A (eqIsQuiet n v) Q E s:=by
 intro n
 induction n with
 |zero=>
  intro d D b A E s v j Q r h;cases r with
  |int i t=>exact AL h
  |str x t=>exact AL h
  |tuple=>rw[depth_tup]at D;lia
  |none=>cases b
  |bool=>cases b
  |list=>cases b
  |dict=>cases b
 |succ n O=>
  intro d D b A E s v j Q r h;cases r with
  |int i t=>exact AL h
  |str x t=>exact AL h
  |none=>cases b
  |bool=>cases b
  |list=>cases b
  |dict=>cases b
  |@tuple a o q m H j J R C P=>
   rw[depth_tup]at D;have B:lits H=AC:=b;have K:s.TypeIs (.ref a) "tuple":=⟨o,J,R⟩;unfold eqIsQuiet;refine AB (Bm K F.slot_tuple_eq.lookup ?_);refine AB (Dz K isSubtype_tuple_tuple ?_);refine AB (Bk J C ?_);refine AB ?_;rw[<-IN];refine KY _ (λl6 r s'=>r.1=AD/\s'=s/\∃left L,(∀k∈left,lit k=AC/\k.depth<=n)/\ReadsAll s.heap l6 left L) _ ?_ ?_ _ _ ⟨rfl,rfl,H,_,λk hk=>⟨ar8 B k hk,by have:=ap8 hk;lia⟩,P⟩
   ·rintro v l6 r s' ⟨hr,rfl,left,L,hall,hl2⟩;cases hl2 with
    |@cons _ _ k p _ _ S z=>
     obtain⟨N,M⟩:=hall k ∎;refine AB (O k M N S ?_);simp only[Dl,Bj,if_false];exact AL ⟨rfl,rfl,p,_,λu hu'=>hall u (by simp[hu']),z⟩
   ·rintro⟨r1,r2⟩ s' ⟨hr,rfl,_⟩;subst hr;exact AL h
abbrev isK(h:BI)(k:Ak)(a:AH):Prop:=lit k=AC/\k.depth<=7/\∃as,Reads h (.ref a) k as
abbrev dataKind(prog:Al)(w:Ay):HeapKind prog w Ak where
 is:=isK
 hash:=hK w
 draws:=dw
 room:=λA=>A.units+8<Bv
 inj:=λ⟨l1,_,_,r1⟩⟨l2,_,_,r2⟩=>bj3 _ _ l1 l2 r1 r2
 keeps:=λ⟨l1,d1,_,r1⟩ho hd hs=>⟨l1,d1,bd7 ho hd hs _ l1 r1⟩
 pyHash:=λhu⟨l1,d1,_,r1⟩h=>b90 7 _ d1 l1 ⋯ r1 h
 eqBool:=λ{A E s x y a b Q}hu⟨l1,d1,_,r1⟩⟨l2,d2,_,r2⟩h=>by
  have e:Av x y=AE (x=y):=by
   by_cases z:x=y
   ·rw[decide_eq_true z];exact(eqv_lit x y l1 l2).mpr z
   ·rw[decide_eq_false z];cases q:Av x y with
    |false=>rfl
    |true=>exact absurd ((eqv_lit x y l1 l2).mp q) z
  have:=GJ x y A s _ _ _ _ r1 r2 (as5 x l1) (as5 y l2) (by have:min x.depth y.depth<=x.depth:=Jc _ _;lia);rw[e]at this;exact this prog w E Q h
 quiet:=λ⟨l1,d1,_,r1⟩h=>b12 8 _ ⋯ l1 r1 h
def dataKind_room_in1{prog:Al}{w:Ay}{A:BW}(h:A.units+20<Bv):(dataKind prog w).room A.in1:=by
 show A.units+1+8<Bv;lia
end NK
end PySem
set_option maxRecDepth 100000
namespace L2
open PySem PySem.Spec PyProof.Rows
@[reducible]noncomputable def Key:=Sum Int Str
abbrev Y2:Key->AG->Bool
 |.inl k,v=>GW k v
 |.inr x,v=>Jd x v
abbrev di6(w:Ay):Key->Int
 |.inl k=>hashInt k
 |.inr x=>hashStr w x
def N5:∀{k:Key}{v:AG},Y2 k v=AC->(∃i t,k=GK i/\v=FE i t)\/(∃x t,k=Bi x/\v=FF x t)
 |.inl i,v,h=>by
  obtain⟨t,e⟩:=Fn (k:=i) (v:=v) h;exact .inl ⟨i,t,rfl,e⟩
 |.inr x,v,h=>by
  obtain⟨t,e⟩:=Value.isStrOf_shape (x:=x) (v:=v) h;exact .inr ⟨x,t,rfl,e⟩
def by2(i)t:Y2 (.inl i) (.int i t)=AC:=by simp[Y2,GW]
def b07(x)t:Y2 (.inr x) (.str x t)=AC:=by simp[Y2,Jd]
def cs2 a b:AE ((GK a:Key)=GK b)=(a==b):=by
 by_cases e:a=b
 ·subst e;simp
 ·simp_all
def cs4 a b:AE ((Bi a:Key)=Bi b)=AE (a=b):=by
 ·simp
def cy1(a:Int)(b:Str):AE (GK a=Bi b)=AF:=decide_eq_false λq=>nomatch q
def cu7(a:Str)(b:Int):AE (Bi a=GK b)=AF:=decide_eq_false λq=>nomatch q
abbrev L7(prog:Al)(w:Ay):PySem.KeyKind prog w Key where
 is:=Y2
 hash:=di6 w
 inj:=λv a b ha hb=>by
  rcases N5 ha with⟨i,t,rfl,rfl⟩|⟨x,t,rfl,rfl⟩
  ·rcases N5 hb with⟨j,u,rfl,e⟩|⟨y,u,rfl,e⟩
   ·injection e with e1 _;rw[e1]
   ·exact nomatch e
  ·rcases N5 hb with⟨j,u,rfl,e⟩|⟨y,u,rfl,e⟩
   ·exact nomatch e
   ·injection e with e1 _;rw[e1]
 byValue:=λk v h=>by
  rcases N5 h with⟨i,t,rfl,rfl⟩|⟨x,t,rfl,rfl⟩<;>rfl
 pyHash:=λhv h=>by
  rcases N5 hv with⟨i,t,rfl,rfl⟩|⟨x,t,rfl,rfl⟩
  ·exact HH h
  ·exact Ew h
 eqBool:=λhu hv h=>by
  rcases N5 hu with⟨i,t,rfl,rfl⟩|⟨x,t,rfl,rfl⟩
  ·rcases N5 hv with⟨j,u,rfl,rfl⟩|⟨y,u,rfl,rfl⟩
   ·rw[cs2]at h;exact wpAny_eqBool_int h
   ·rw[cy1]at h;exact SeqAt.EqAt.int_str i t y u _ _ _ _ h
  ·rcases N5 hv with⟨j,u,rfl,rfl⟩|⟨y,u,rfl,rfl⟩
   ·rw[cu7]at h;exact SeqAt.EqAt.str_int x t j u _ _ _ _ h
   ·rw[cs4]at h;exact wpAny_eqBool_str h
 «strs»:=λk x t v h=>by
  rcases N5 h with⟨i,u,rfl,e⟩|⟨y,u,rfl,e⟩
  ·exact nomatch e
  ·injection e with e1 _
   subst e1;cases v<;>rfl
def bs8 prog(w)(i)t:(L7 prog w).is (.inl i) (.int i t)=AC:=by2 i t
def bs6 prog(w)(x)t:(L7 prog w).is (.inr x) (.str x t)=AC:=b07 x t
variable{a b:AH}{h h':BI}{P:Al}
inductive V where
 |non|bl (b:Bool)|int (i:Int)|str (x:Str)|byt (b:Array UInt8)|flt (b:UInt64)|ref (a:AH)|ty (n:String)
 deriving DecidableEq
abbrev i8:V->AG->Prop
 |.non,u=>u=Bz
 |.bl b,u=>u=Fa b
 |.int i,u=>∃t,u=FE i t
 |.str x,u=>∃t,u=FF x t
 |.byt b,u=>∃t,u=Jy b t
 |.flt b,u=>∃t,u=Jz b t
 |.ref a,u=>u=BC a
 |.ty n,u=>u=De n
@[reducible]noncomputable def i6:List V->List AG->Prop:=Paired i8
theorem i6.length{xs}{us}(r:i6 xs us):xs.length=us.length:=Paired.length r
theorem i6.get:∀{a:List V}{b:List AG}{i:Nat}{x:V},i6 a b->a[i]?=AA x->∃u,b[i]?=AA u/\i8 x u
 |_,_,_,_,.nil,e=>by simp at e
 |_,_,0,_,.cons r _,e=>by simp_all
 |_,_,i+1,x,.cons _ t,e=>by
  obtain⟨u,d,c⟩:=i6.get (i:=i) (x:=x) t (by simpa using e);exact⟨u,by simpa using d,c⟩
theorem i6.set{x}{u}(r:i8 x u):∀{a}{b}i,i6 a b->i6 (a.set i x) (b.set i u)
 |_,_,_,.nil=>.nil
 |_,_,0,.cons _ t=>.cons r t
 |_,_,i+1,.cons q t=>.cons q (i6.set r i t)
theorem i6.append:∀{b a}{d c},i6 b d->i6 a c->i6 (b++a) (d++c)
 |_,_,_,_,.nil,s=>s
 |_,_,_,_,.cons r t,s=>.cons r (i6.append t s)
theorem i6.take:∀{a}{b}n,i6 a b->i6 (a.take n) (b.take n)
 |_,_,0,_=>.nil
 |_,_,_+1,.nil=>.nil
 |_,_,n+1,.cons r t=>.cons r (i6.take n t)
theorem i6.drop:∀{a}{b}n,i6 a b->i6 (a.drop n) (b.drop n)
 |_,_,0,r=>r
 |_,_,_+1,.nil=>.nil
 |_,_,n+1,.cons _ t=>i6.drop n t
abbrev C5:Option V->Option AG->Prop
 |some v,AA u=>i8 v u
 |none,AD=>True
 |_,_=>False
abbrev KV{κ:Type}:List (κ×V)->List (κ×AG)->Prop:=Paired λ(p:κ×V)(q:κ×AG)=>p.1=q.1/\i8 p.2 q.2
abbrev kV:Key->V
 |.inl i=>.int i
 |.inr x=>.str x
inductive HO where
 |lst (xs:List V)
 |tup (xs:List V)
 |dK (kvs:List (Key×V))|dT (kvs:List (Ak×V))
 |set (S:Int->Bool) (n:Nat)
 |ins (C dx:AH) (fs:List (Str×V))
 |own (x:AH)
 |xd (fs:List (Str×V))
 |met (f x:AH)
 |rng (lo hi:Int)
 |frz (o:Obj) (u:HO)
 |tbl (ps:Array AG)
 |ext (φ:BI->Prop)
variable{o:HO}
@[reducible]noncomputable def Hp:=AH->Option HO
variable{H:Hp}
abbrev upd(H:Hp)(a:AH)(o:HO):Hp:=λb=>if b=a then AA o else H b
def p8:upd H a o a=AA o:=by unfold upd;rw[if_pos rfl]
def j7(h:b≠a):upd H a o b=H b:=by unfold upd;rw[if_neg h]
def c19{u}(h:H a=AA o)(h':H b=AA u)(d:o≠u):a≠b:=by
 intro e;simp_all
def z5(h:H a=AA o)(h':H b=AD):a≠b:=by
 grind
mutual
noncomputable def HRd(H:Hp):Ak->V->Prop
 |.int i,v=>v=.int i
 |.str x,v=>v=.str x
 |.tuple ds,v=>∃a vs,v=.ref a/\H a=AA (.tup vs)/\O7 H ds vs
 |_,_=>False
noncomputable def O7(H:Hp):List Ak->List V->Prop
 |[],vs=>vs=[]
 |d::ds,vs=>∃v r,vs=v::r/\HRd H d v/\O7 H ds r
end
mutual
theorem HRd.keeps{H H':Hp}(ht:∀b ys,H b=AA (.tup ys)->H' b=AA (.tup ys)):∀(d:Ak){v:V},HRd H d v->HRd H' d v
 |.int i,v,h=>h
 |.str x,v,h=>h
 |.tuple ds,v,h=>let⟨a,vs,e,h1,h2⟩:=h;⟨a,vs,e,ht a vs h1,O7.keeps ht ds h2⟩
 |.none,_,h=>h.elim
 |.bool _,_,h=>h.elim
 |.list _,_,h=>h.elim
 |.dict _,_,h=>h.elim
theorem O7.keeps{H H':Hp}(ht:∀b ys,H b=AA (.tup ys)->H' b=AA (.tup ys)):∀(ds:List Ak){vs:List V},O7 H ds vs->O7 H' ds vs
 |[],vs,h=>h
 |d::ds,vs,h=>let⟨v,r,e,h1,h2⟩:=h;⟨v,r,e,HRd.keeps ht d h1,O7.keeps ht ds h2⟩
end
abbrev G9(H:Hp)(d:Ak)(b:AH):Prop:=NK.lit d=AC/\d.depth<=7/\HRd H d (.ref b)
theorem G9.keeps{H'}{d}(h:G9 H d b)(c:∀b a,H b=AA (.tup a)->H' b=AA (.tup a)):G9 H' d b:=⟨h.1,h.2.1,HRd.keeps c d h.2.2⟩
abbrev G4(h:BI)(a:AH)(items:Array AG):Prop:=∃o,h.get? a=AA o/\o.cls=.type "tuple"/\o.dict=AD/\∃n,o.data=.seq items n
def G4.tup{items}(x:G4 h a items):Gn h a items:=let⟨o,e,c,_,d⟩:=x;⟨o,e,c,d⟩
def G4.lt{items}(x:G4 h a items):=let⟨_,e,_⟩:=x;Ax e
def G4.new(h:BI)items:G4 (h.push {cls:=.type "tuple",data:=.seq items}) h.objs.size items:=⟨_,Ai _ rfl,rfl,rfl,_,rfl⟩
section
variable (P:Al) (w:Ay)
abbrev t0(H:Hp)(h:BI)(a:AH):HO->Prop
 |.lst xs=>xs.length<=sizeLine/\∃(its:List AG)(n:Nat),i6 xs its/\h.get? a=AA {cls:=.type "list",data:=.seq its.toArray n}
 |.tup xs=>xs.length<=sizeLine/\∃its:List AG,i6 xs its/\G4 h a its.toArray
 |.dK kvs=>kvs.length<=sizeLine/\(a==Cc)=AF/\∃vs,KV kvs vs/\h.DictOf (L7 P w) a vs
 |.dT kvs=>kvs.length<=sizeLine/\(a==Cc)=AF/\∃xs:List (Ak×AH×AG),
   Paired (λ(p:Ak×V)(q:Ak×AH×AG)=>p.1=q.1/\G9 H p.1 q.2.1/\i8 p.2 q.2.2) kvs xs /\
   ∃o es ep,h.get? a=AA o/\o.ExactDict/\o.data=.dict es ep/\es.toList=xs.map (entryOfKey (NK.dataKind P w))/\(xs.map (·.1)).Nodup
 |.set S n=>h.SetOf (intKind P w) a S n
 |.ins C dx fs=>H dx=AA (.own a)/\fs.length<=1000/\dx≠a/\h.get? a=AA (ES C dx) /\
   ∃mA,h.Ns1 dx mA/\(∀f,C5 (fs.lookup f) (mA f))/\PySem.Within mA (fs.map (·.1))
 |.own _=>∃o,h.get? a=AA o
 |.xd fs=>∃mA,h.Ns1 a mA/\∀f,C5 (fs.lookup f) (mA f)
 |.rng lo hi=>∃t u v,h.get? a=AA {cls:=.type "range",data:=.fields #[.int lo t,.int hi u,.int 1 v]}
 |.frz o u=>h.get? a=AA o/\t0 H h a u
 |.tbl ps=>h.get? a=AA {cls:=.none,data:=.fields ps}
 |.met f x=>h.get? a=AA (Ih (.ref f) (.ref x))
 |.ext φ=>φ h/\(∃o,h.get? a=AA o)/\∀h1 h2:BI,φ h1->(∀o,h1.get? a=AA o->h2.get? a=AA o)->φ h2
abbrev HOk(H:Hp)(h:BI):Prop:=∀a o,H a=AA o->t0 P w H h a o
end
section
variable {w:Ay} {H':Hp} 
theorem t0.lt(x:t0 P w H h a o):a<h.objs.size:=by
 cases o with
 |lst c=>obtain⟨_,_,_,_,e⟩:=x;exact Ax e
 |tup c=>obtain⟨_,_,_,p⟩:=x;exact p.lt
 |dK b=>obtain⟨_,_,_,_,o,_,_,e,_⟩:=x;exact Ax e
 |dT b=>obtain⟨_,_,_,_,o,_,_,e,_⟩:=x;exact Ax e
 |set S n=>obtain⟨o,_,_,_,e,_⟩:=x;exact Ax e
 |ins C dx r=>obtain⟨_,_,_,e,_⟩:=x;exact Ax e
 |own y=>obtain⟨_,e⟩:=x;exact Ax e
 |xd r=>obtain⟨_,⟨_,_,_,e,_⟩,_⟩:=x;exact Ax e
 |rng B D=>obtain⟨_,_,_,e⟩:=x;exact Ax e
 |frz A u=>obtain⟨e,_⟩:=x;exact Ax e
 |tbl z=>exact Ax (show h.get? a=AA _ from x)
 |met f y=>exact Ax (show h.get? a=AA _ from x)
 |ext t=>obtain⟨_,⟨_,e⟩,_⟩:=x;exact Ax e
theorem Paired.mapP{g e:Type}{F G}:∀{d:List g}{c:List e},Paired F d c->(∀a b,F a b->G a b)->Paired G d c
 |_,_,.nil,_=>.nil
 |_,_,.cons r t,f=>.cons (f _ _ r) (Paired.mapP t f)
def t0.stay(x:t0 P w H h a o)(k:∀b u,(b=a\/H b=AA (.own a))->h.get? b=AA u->h'.get? b=AA u)
  (U:∀b,H b=AA (.own a)->H' b=AA (.own a)) (T:∀b m,H b=AA (.tup m)->H' b=AA (.tup m)):t0 P w H' h' a o:=by
 induction o with
 |lst m=>obtain⟨z,l,n,r,e⟩:=x;exact⟨z,l,n,r,k _ _ (.inl rfl) e⟩
 |tup m=>obtain⟨z,l,r,g,e,c⟩:=x;exact⟨z,l,r,g,k _ _ (.inl rfl) e,c⟩
 |dK B=>obtain⟨z,y,E,r,g,i,j,e,c⟩:=x;exact⟨z,y,E,r,g,i,j,k _ _ (.inl rfl) e,c⟩
 |dT B=>
  obtain⟨z,y,m,r,g,i,j,e,c⟩:=x;exact⟨z,y,m,Paired.mapP r λp q z=>⟨z.1,z.2.1.keeps T,z.2.2⟩,g,i,j,k _ _ (.inl rfl) e,c⟩
 |set S n=>obtain⟨g,i,j,t,e,c⟩:=x;exact⟨g,i,j,t,k _ _ (.inl rfl) e,c⟩
 |ins C dx V=>
  obtain⟨d,z,M,e,A,⟨s,i,j,X,c⟩,r⟩:=x;exact⟨U _ d,z,M,k _ _ (.inl rfl) e,A,⟨s,i,j,k _ _ (.inr d) X,c⟩,r⟩
 |own y=>obtain⟨g,e⟩:=x;exact⟨g,k _ _ (.inl rfl) e⟩
 |xd V=>obtain⟨A,⟨s,i,j,e,c⟩,r⟩:=x;exact⟨A,⟨s,i,j,k _ _ (.inl rfl) e,c⟩,r⟩
 |rng lo hi=>obtain⟨t,u,v,e⟩:=x;exact⟨t,u,v,k _ _ (.inl rfl) e⟩
 |frz g u R=>obtain⟨e,q⟩:=x;exact⟨k _ _ (.inl rfl) e,R q⟩
 |tbl K=>
  have e:h.get? a=AA {cls:=.none,data:=.fields K}:=x;exact k a _ (.inl rfl) e
 |met f y=>
  have e:h.get? a=AA (Ih (.ref f) (.ref y)):=x;exact k a _ (.inl rfl) e
 |ext Y=>obtain⟨p,⟨o,e⟩,D⟩:=x;exact⟨D _ _ p λo q=>k _ _ (.inl rfl) q,⟨o,k _ _ (.inl rfl) e⟩,D⟩
theorem HOk.lt(x:HOk P w H h)(e:H a=AA o):a<h.objs.size:=(x a o e).lt
def HOk.fresh(x:HOk P w H h)(e:h.objs.size<=a):H a=AD:=by
 cases q:H a with
 |none=>rfl
 |some u=>exact absurd (Ar (x.lt q) e) (DL _)
def HOk.kept(x:HOk P w H h)(k:∀b u,h.get? b=AA u->h'.get? b=AA u):HOk P w H h':=λa o e=>
 (x a o e).stay (λb u _=>k b u) (λ_ q=>q) λ_ _ q=>q
def HOk.laid(x:HOk P w H h)(k:∀b u,h.get? b=AA u->h'.get? b=AA u)(i:h.objs.size<=a)(d:t0 P w (upd H a o) h' a o):HOk P w (upd H a o) h':=λb u e=>by
 have f:=x.fresh i
 by_cases g:b=a
 ·subst g;rw[p8]at e;cases e;exact d
 ·rw[j7 g]at e;exact(x b u e).stay (λc v _=>k c v) (λc q=>(j7 (z5 q f)▸q)) λc xs q=>j7 (z5 q f)▸q
end
abbrev Rd(H:Hp)(a:AH)(u:HO):Prop:=H a=AA u\/∃o,H a=AA (.frz o u)
def Rd.ok{w}{u}(r:Rd H a u)(x:HOk P w H h):t0 P w H h a u:=by
 rcases r with r|⟨o,r⟩
 ·exact x a u r
 ·obtain⟨_,q⟩:=x a _ r;exact q
abbrev Mut:Option HO->Prop
 |some (.lst _)=>True
 |some (.dK _)=>True
 |some (.dT _)=>True
 |some (.set _ _)=>True
 |some (.ins _ _ _)=>True
 |some (.ext _)=>True
 |_=>False
section
variable {w:Ay} {x e:AH} {o':HO}
def HOk.write(s:HOk P w H h)(i:Mut (H x))(p:e=x\/H e=AA (.own x))(k:∀b u,b≠e->h.get? b=AA u->h'.get? b=AA u)(n:∃u,h'.get? e=AA u)
  (m:t0 P w (upd H x o') h' x o'):HOk P w (upd H x o') h':=λb u q=>by
 have d:∀c y,H c=AA (.own y)->c≠x:=λc y r z=>by subst z;rw[r]at i;exact i
 have f:∀c g,H c=AA (.tup g)->c≠x:=λc g r z=>by subst z;rw[r]at i;exact i
 by_cases l:b=x
 ·subst l;rw[p8]at q;cases q;exact m
 ·rw[j7 l]at q
  by_cases a:b=e
  ·have o:H b=AA (.own x):=by
    rcases p with z|z
    ·exact absurd (a.trans z) l
    ·rw[a];exact z
   rw[q]at o;cases o;obtain⟨v,t⟩:=n;exact⟨v,by rw[a];exact t⟩
  ·refine(s b u q).stay (λc v j r=>k c v ?_ r) (λc r=>by rw[j7 (d c b r)];exact r) λc g r=>by rw[j7 (f c g r)];exact r
   rcases j with rfl|j
   ·exact a
   ·rintro rfl
    rcases p with z|z
    ·exact d c b j z
    ·rw[j]at z;cases z;exact l rfl
end
structure Un(fs ex:List AH)(H H':Hp)(h h':BI):Prop where
 keep:∀b o,h.get? b=AA o->H b=AD->b∉fs->b∉ex->h'.get? b=AA o
 slot:∀b o,h.get? b=AA o->H b=AD->b∈fs->b∉ex->∃sl,h'.get? b=AA {o with slots:=sl}
 free:∀b o,h.get? b=AA o->H b=AD->b∉ex->H' b=AD
 there:∀b o,h.get? b=AA o->b∉ex->∃o',h'.get? b=AA o'
 tups:∀b xs,H b=AA (.tup xs)->H' b=AA (.tup xs)
 frzs:∀b o u,H b=AA (.frz o u)->H' b=AA (.frz o u)
 tbls:∀b ps,H b=AA (.tbl ps)->∃more,H' b=AA (.tbl (ps++more))
section
variable {fs fs' ex ex':List AH} {H1 H2:Hp} {h1 h2:BI} {x e:AH} 
def Un.any(u:Un fs ex H H1 h h1){ob}q(n:H b=AD)hx:=by
 by_cases a:b∈fs
 ·exact u.slot b ob q n a hx
 ·exact⟨ob.slots,u.keep b ob q n a hx⟩
def Un.kept(k:∀b u,h.get? b=AA u->h'.get? b=AA u):Un fs ex H H h h':=
 ⟨λb ob q _ _ _=>k b ob q,λb ob q _ _ _=>⟨ob.slots,k b ob q⟩,λ_ _ _ n _=>n,λb ob q _=>⟨ob,k b ob q⟩,λ_ _ q=>q,λ_ _ _ q=>q,λ_ ps q=>⟨#[],by rw[q];simp⟩⟩
def Un.refl:Un fs ex H H h h:=Un.kept λ_ _ q=>q
def Un.laid(k:∀b u,h.get? b=AA u->h'.get? b=AA u)(d:h.objs.size<=a)(c:H a=AD):Un fs ex H (upd H a o) h h' where
 keep:=λb u q _ _ _=>k b u q
 slot:=λb u q _ _ _=>⟨u.slots,k b u q⟩
 free:=λb u q n _=>j7 (BR (Ar (Ax q) d))▸n
 there:=λb u q _=>⟨u,k b u q⟩
 tups:=λb xs q=>j7 (z5 q c)▸q
 frzs:=λb u xs q=>j7 (z5 q c)▸q
 tbls:=λb ps q=>⟨#[],by rw[j7 (z5 q c),q];simp⟩
def Un.write(c:Mut (H x))(j:e=x\/H e=AA (.own x))(k:∀b u,b≠e->h.get? b=AA u->h'.get? b=AA u)(f:∃u,h'.get? e=AA u):Un fs ex H (upd H x o) h h':=by
 have g:∀b,H b=AD->b≠x:=λb n z=>by subst z;rw[n]at c;exact c
 have i:∀b,H b=AD->b≠e:=λb n z=>by
  subst z
  rcases j with r|r
  ·exact g b n r
  ·rw[n]at r;cases r
 have d:∀b u,H b=AA u->¬Mut (AA u)->b≠x:=λb u q nm z=>by subst z;rw[q]at c;exact nm c
 refine⟨λb u q n _ _=>k b u (i b n) q,λb u q n _ _=>⟨u.slots,k b u (i b n) q⟩,λb u q n _=>by rw[j7 (g b n)];exact n,λb u q _=>?_,
  λb xs q=>by rw[j7 (d b _ q λz=>z)];exact q,λb u xs q=>by rw[j7 (d b _ q λz=>z)];exact q,λb ps q=>⟨#[],by rw[j7 (d b _ q λz=>z),q];simp⟩⟩
 by_cases a:b=e
 ·subst a;exact f
 ·exact⟨u,k b u a q⟩
end
abbrev trk(h:BI)(H:Hp):List AH:=(Dj h.objs.size).filter λa=>(H a).isSome
abbrev M8(h:BI)(H:Hp):BI:=W.hideAll h (trk h H)
def bx4(h)H:(M8 h H).objs.size=h.objs.size:=W.hideAll_size _ _
def b81{o}(e:h.get? b=AA o)(n:H b=AD):(M8 h H).get? b=AA o:=
 W.hideAll_get _ e λhm=>by
  have q:=(mem_filter.mp hm).2;rw[n]at q;simp at q
def cg4{o}(e:(M8 h H).get? b=AA o):h.get? b=AA o/\H b=AD:=by
 have a:=W.of_hideAll (trk h H) e;refine⟨a,?_⟩;cases q:H b with
 |none=>rfl
 |some x=>
  have c:b∈trk h H:=mem_filter.mpr ⟨List.mem_range.mpr (Ax a),by simp[q]⟩;have z:(M8 h H).get? b=AD:=W.hideAll_none (trk h H) c;rw[z]at e;cases e
abbrev ck5(g h:BI)(L:AH):List (AH×Obj):=(Dj h.objs.size).filterMap λa=>if a=L\/(g.get? a).isSome=AC then AD else(h.get? a).map λo=>(a,o)
abbrev l6(g h:BI)(L d:AH):List (AH×Obj):=(ck5 g h L).filter λp=>AE (p.1≠d)
end L2
namespace L2
open PySem PySem.Spec PyProof.Rows
variable{x:Str}{i:Nat}
structure Mod(K:AQ)(mg:Str->Option AG)(base:BI):Prop where
 kin:K.In base
 glob:base.Ns AO mg
 blt:∃mb,base.Ns DG mb/\∀x:Str,x≠"__name__"->mb x=Bn x
 nolimit:base.NoLimit
structure Cx where
 prog:Al
 w:Ay
 K:AQ
 mg:Str->Option AG
 base:BI
 A:BW
 N:List Str
 s₀:AJ
 H₀:Hp
 env:Env
 outer:List Env
 stack:List Env
 ex:List AH
 fn:Str->Bool
 calm:Bool
 pn:List (AH×Obj)
 xe:AG->AJ->Prop
 ow:Str->Bool:=λ_=>AF
abbrev frs(l:List Env):List AH:=l.filterMap (·.frame)
@[reducible]noncomputable def Cx.fs(X:Cx):List AH:=frs X.outer
abbrev Vis(sc:BS)(x:Str):Prop:=sc.names.lookup x=AA .local\/sc.names.lookup x=AA .cell\/sc.names.lookup x=AA .free
abbrev Loc(sc:BS)(x:Str):Prop:=sc.names.lookup x=AA .local\/sc.names.lookup x=AA .cell
abbrev dg9(env:Env)(h:BI)(m:Str->Option AG)(x:Str)(u:AG):Prop:=
 (env.kindOf x=AA .local/\m x=AA u)\/((env.kindOf x=AA .cell\/env.kindOf x=AA .free)/\∃c,env.cells.lookup x=AA c/\h.IsCell c (AA u))
structure Cx.Ok(X:Cx):Prop where
 mod:Mod X.K X.mg X.base
 kind:X.env.scope.kind=.function
 glob:X.env.globals=AO
 blt:X.env.builtins=DG
 above:X.s₀.heap.objs.size<=X.env.locals
 inj:∀x y c,X.env.cells.lookup x=AA c->X.env.cells.lookup y=AA c->x=y
 has:∀x,(X.env.kindOf x=AA .cell\/X.env.kindOf x=AA .free)->∃c,X.env.cells.lookup x=AA c
 cab:∀x c,X.fn x=AC\/X.ow x=AC->X.env.cells.lookup x=AA c->X.s₀.heap.objs.size<=c
 hd:X.calm=AC->X.A.handled=AD
 frames:X.A.frames=AA X.stack
 stk:X.stack=X.outer\/(X.stack=X.env::X.outer/\X.env.frame=AA X.env.locals)
 exf:∀b∈X.ex,b≠X.env.locals/\∀x c,X.env.cells.lookup x=AA c->c≠b
 bs:∀b o,X.base.get? b=AA o->X.s₀.heap.get? b=AA o/\X.H₀ b=AD
 bsz:X.base.objs.size<=X.s₀.heap.objs.size
 noex:∀b o,X.base.get? b=AA o->b∉X.ex
 exfs:∀b∈X.ex,b∉X.fs
 funs:X.s₀.heap.FunFrames X.base X.outer
 frf:∀b∈X.fs,X.H₀ b=AD
structure Inv(X:Cx)(pins:List (AH×Obj))(σ:List (Option V))(H:Hp)(s:AJ):Prop where
 ok:X.Ok
 os:s.os=X.s₀.os
 bare:Go s.gens
 base:Un X.fs X.ex X.H₀ H X.s₀.heap s.heap
 loc:∃m,s.heap.Ns X.env.locals m/\∀(i:Nat)(x:Str)(v:V),X.N[i]?=AA x->σ[i]?=AA (AA v)->Vis X.env.scope x->∃u,i8 v u/\dg9 X.env s.heap m x u
 cell:∀x c,X.env.cells.lookup x=AA c->∃v,s.heap.IsCell c v
 free:H X.env.locals=AD
 freeC:∀x c,X.env.cells.lookup x=AA c->H c=AD\/(X.fn x=AF/\∃o u,H c=AA (.frz o u))
 pin:∀p∈X.pn++pins,s.heap.get? p.1=AA p.2/\H p.1=AD/\p.1≠X.env.locals/\p.1∉X.fs/\∀v,p.2.data≠.cell v
 hok:HOk X.prog X.w H s.heap
 len:σ.length=X.N.length
section
variable {X:Cx} {pins:List (AH×Obj)} {σ:List (Option V)} {H H':Hp} {s:AJ} {h':BI}
def Cx.Ok.nofr(a:X.Ok){b}{o}(e:X.base.get? b=AA o):b∉X.fs:=λhb=>by
 have:=(a.funs.mem hb).1;rw[e]at this;cases this
theorem Inv.bs(I:Inv X pins σ H s):∀b o,X.base.get? b=AA o->s.heap.get? b=AA o/\H b=AD:=λb o e=>
 ⟨I.base.keep b o (I.ok.bs b o e).1 (I.ok.bs b o e).2 (I.ok.nofr e) (I.ok.noex b o e),I.base.free b o (I.ok.bs b o e).1 (I.ok.bs b o e).2 (I.ok.noex b o e)⟩
def Inv.bk(I:Inv X pins σ H s):∀b o,X.base.get? b=AA o->s.heap.get? b=AA o:=λb o e=>(I.bs b o e).1
theorem Inv.mod(I:Inv X pins σ H s):Mod X.K X.mg X.base:=I.ok.mod
def Inv.kIn(I:Inv X pins σ H s):=I.ok.mod.kin.keeps I.bk
theorem Inv.lt(I:Inv X pins σ H s):X.env.locals<s.heap.objs.size:=let⟨_,a,_⟩:=I.loc;a.lt
def Inv.sz(I:Inv X pins σ H s):=Bd I.ok.above (Gp I.lt)
def Inv.nofs(I:Inv X pins σ H s){a:AH}(h:s.heap.objs.size<=a):a∉X.fs:=λhb=>by
 obtain⟨_,o,b,_⟩:=I.ok.funs.mem hb;exact absurd (Ar (Ax b) (Bd I.sz h)) (DL _)
def Inv.cne(I:Inv X pins σ H s):∀x c,X.env.cells.lookup x=AA c->c≠X.env.locals:=λx c e z=>by
 obtain⟨v,o,f,g⟩:=I.cell x c e;obtain⟨m,⟨d,h,i,a,b,_⟩,_⟩:=I.loc;grind
theorem Inv.funs(I:Inv X pins σ H s):s.heap.FunFrames X.base X.outer:=by
 have d:∀l,(∀b∈frs l,b∈X.fs)->X.s₀.heap.FunFrames X.base l->s.heap.FunFrames X.base l:=by
  intro l
  induction l with
  |nil=>intro _ _;trivial
  |cons t r i=>
   intro f n;obtain⟨p,⟨L,o,a,m,k,q⟩,j⟩:=n;have c:=f L (by unfold frs;rw[Dm,a];exact Bw);obtain⟨u,e⟩:=I.base.slot L o k (I.ok.frf L c) c λz=>I.ok.exfs L z c;exact⟨p,⟨L,_,a,m,e,q⟩,i (λb hb=>f b (by unfold frs;rw[Dm,a];exact As _ hb)) j⟩
 exact d X.outer (λ_ hb=>hb) I.ok.funs
theorem Inv.stack(I:Inv X pins σ H s):s.heap.FunFrames X.base X.stack:=by
 rcases I.ok.stk with e|⟨e,b⟩
 ·rw[e];exact I.funs
 ·rw[e];obtain⟨m,a,_⟩:=I.loc;exact .cons (by rw[I.ok.kind];decide) b a (Heap.get?_none_of_le (Bd I.ok.bsz I.ok.above)) I.funs
def Inv.stkSub(I:Inv X pins σ H s):∀b∈frs X.stack,b∈X.env.locals::X.fs:=λb hb=>by
 rcases I.ok.stk with e|⟨e,a⟩
 ·rw[e]at hb;exact As _ hb
 ·rw[e]at hb;unfold frs at hb;rwa[Dm,a]at hb
def Inv.stkFree(I:Inv X pins σ H s):∀b∈frs X.stack,H b=AD:=λb a=>by
 rcases AK.mp (I.stkSub b a)with e|a
 ·rw[e];exact I.free
 ·obtain⟨_,o,c,_⟩:=I.ok.funs.mem a;exact I.base.free b o c (I.ok.frf b a) λz=>I.ok.exfs b z a
def Inv.step{g':Array GenState}{t':Nat}{d':Drawn}{ch:List AH}(I:Inv X pins σ H s)
  (h:∀b∈ch,(b∈X.ex\/X.s₀.heap.objs.size<=b)/\b≠X.env.locals/\(∀x c,X.env.cells.lookup x=AA c->c≠b)/\∀p∈X.pn++pins,p.1≠b)
  (g:∀b o,b≠X.env.locals->b∉X.fs->b∉ch->s.heap.get? b=AA o->H b=AD->h'.get? b=AA o)
  (D:∀b o,b≠X.env.locals->b∈X.fs->b∉ch->s.heap.get? b=AA o->H b=AD->∃V,h'.get? b=AA {o with slots:=V}) (a:∀b o,b∉ch->s.heap.get? b=AA o->H b=AD->H' b=AD)
  (F:∀b o,b∉ch->s.heap.get? b=AA o->∃K,h'.get? b=AA K)
  (G:∀b C,H b=AA (.tup C)->H' b=AA (.tup C)) (j:∀b o u,H b=AA (.frz o u)->H' b=AA (.frz o u)) (J:∀b Q,H b=AA (.tbl Q)->∃M,H' b=AA (.tbl (Q++M)))
  (ns:∀m,s.heap.Ns X.env.locals m->h'.Ns X.env.locals m) (N:HOk X.prog X.w H' h') (hg:Go g') :
  Inv X pins σ H' {s with heap:=h',gens:=g',drawn:=d',toks:=t'}:=by
 have L:∀b o,X.s₀.heap.get? b=AA o->b≠X.env.locals:=λb o e=>BR (Ar (Ax e) I.ok.above);have y:∀b o,X.s₀.heap.get? b=AA o->b∉X.ex->b∉ch:=λb o e hx hb=>by
  rcases(h b hb).1 with z|z
  ·exact hx z
  ·exact absurd (Ar (Ax e) z) (DL _)
 have t:∀x c,X.env.cells.lookup x=AA c->∀v,s.heap.IsCell c v->h'.IsCell c v:=λx c e v⟨o,E,T⟩=>by
  have f:c∉ch:=λz=>(h c z).2.2.1 x c e rfl
  rcases I.freeC x c e with A|⟨_,R,P,S⟩
  ·by_cases hc:c∈X.fs
   ·obtain⟨V,q⟩:=D c o (I.cne x c e) hc f E A;exact⟨_,q,T⟩
   ·exact⟨o,g c o (I.cne x c e) hc f E A,T⟩
  ·obtain⟨h1,_⟩:=I.hok c _ S;obtain⟨h2,_⟩:=N c _ (j c R P S);rw[h1]at E;cases E;exact⟨_,h2,T⟩
 refine⟨I.ok,I.os,hg,⟨λb o e n hb hx=>?_,λb o e n hb hx=>?_,λb o e n hx=>?_,λb o e hx=>?_,λb C e=>G b C (I.base.tups b C e),λb o C e=>j b o C (I.base.frzs b o C e),λb Q e=>?_⟩,?_,λx c e=>?_,?_,λx c e=>?_,λp hp=>?_,N,I.len⟩
 ·exact g b o (L b o e) hb (y b o e hx) (I.base.keep b o e n hb hx) (I.base.free b o e n hx)
 ·obtain⟨V,B⟩:=I.base.slot b o e n hb hx;obtain⟨U,O⟩:=D b _ (L b o e) hb (y b o e hx) B (I.base.free b o e n hx);exact⟨U,O⟩
 ·obtain⟨K,B⟩:=I.base.there b o e hx;exact a b K (y b o e hx) B (I.base.free b o e n hx)
 ·obtain⟨K,B⟩:=I.base.there b o e hx;exact F b K (y b o e hx) B
 ·obtain⟨m1,B⟩:=I.base.tbls b Q e;obtain⟨m2,O⟩:=J b _ B;exact⟨m1++m2,by rw[O,Array.append_assoc]⟩
 ·obtain⟨m,hn,hl⟩:=I.loc;refine⟨m,ns m hn,λi x v B O e3=>?_⟩;obtain⟨u,r,l⟩:=hl i x v B O e3;refine⟨u,r,?_⟩
  rcases l with l|⟨k,c,e,z⟩
  ·exact .inl l
  ·exact .inr ⟨k,c,e,t x c e _ z⟩
 ·obtain⟨v,z⟩:=I.cell x c e;exact⟨v,t x c e v z⟩
 ·obtain⟨m,⟨o,_,_,E,_⟩,_⟩:=I.loc;exact a _ o (λz=>(h _ z).2.1 rfl) E I.free
 ·obtain⟨v,o,E,T⟩:=I.cell x c e
  rcases I.freeC x c e with A|⟨W,R,P,S⟩
  ·exact .inl (a c o (λz=>(h c z).2.2.1 x c e rfl) E A)
  ·exact .inr ⟨W,R,P,j c R P S⟩
 ·obtain⟨e,n,Z,Y,d⟩:=I.pin p hp;have f:p.1∉ch:=λz=>(h p.1 z).2.2.2 p hp rfl;exact⟨g p.1 p.2 Z Y f e n,a p.1 p.2 f e n,Z,Y,d⟩
def Inv.un{t'}(I:Inv X pins σ H s)(u:Un X.fs [] H H' s.heap h')(c:HOk X.prog X.w H' h'):Inv X pins σ H' {s with heap:=h',toks:=t'}:=by
 obtain⟨m,⟨o,l,p,g,r⟩,_⟩:=id I.loc;obtain⟨j,i⟩:=u.any g I.free ∎;exact I.step (ch:=[]) (λ_ z=>nomatch z) (λb o _ hb _ e n=>u.keep b o e n hb ∎) (λb o _ hb _ e n=>u.slot b o e n hb ∎) (λb o _ e n=>u.free b o e n ∎) (λb o _ e=>u.there b o e ∎) u.tups u.frzs u.tbls (λm' hm=>by
  obtain⟨k,d,f,a,h⟩:=hm;rw[g]at a;cases a;exact⟨_,d,f,i,h⟩) c I.bare
def Inv.call{g'}{t'}{d'}{ch}(I:Inv X pins σ H s)(u:Un (frs X.stack) ch H H' s.heap h')(f:HOk X.prog X.w H' h')(l:Go g')
  (d:∀b∈ch,(b∈X.ex\/X.s₀.heap.objs.size<=b)/\b≠X.env.locals/\(∀x c,X.env.cells.lookup x=AA c->c≠b)/\∀p∈X.pn++pins,p.1≠b) :
  Inv X pins σ H' {s with heap:=h',gens:=g',drawn:=d',toks:=t'}:=by
 obtain⟨m,⟨o,v,y,j,r⟩,_⟩:=id I.loc;obtain⟨q,g⟩:=u.any j I.free λz=>(d _ z).2.1 rfl;exact I.step d (λb o g hb hc e n=>u.keep b o e n (λz=>(AK.mp (I.stkSub b z)).elim g hb) hc) (λb o _ _ hc e n=>u.any e n hc) (λb o hc e n=>u.free b o e n hc) (λb o hc e=>u.there b o e hc) u.tups u.frzs u.tbls (λm' hm=>by
  obtain⟨t,h,i,a,k⟩:=hm;rw[j]at a;cases a;exact⟨_,h,i,g,k⟩) f l
def Inv.turned{t'}{it}(I:Inv X pins σ H s)(k:∀b o,b≠it->s.heap.get? b=AA o->h'.get? b=AA o)(m:H it=AD)(d:it≠X.env.locals)
  (i:it∈X.ex\/X.s₀.heap.objs.size<=it) (h:∀x c,X.env.cells.lookup x=AA c->c≠it) (g:∀p∈X.pn++pins,p.1≠it):Inv X pins σ H {s with heap:=h',toks:=t'}:=by
 have a:∀b u,H b=AA u->b≠it:=λb u e z=>by grind
 refine I.step (ch:=[it]) (λb hb=>?_) (λb o _ _ hc e _=>k b o (λz=>hc (by simp[z])) e) (λb o _ _ hc e _=>⟨o.slots,k b o (λz=>hc (by simp[z])) e⟩) (λ_ _ _ _ n=>n)
  (λb o hc e=>⟨o,k b o (λz=>hc (by simp[z])) e⟩) (λ_ _ e=>e) (λ_ _ _ e=>e) (λb ps e=>⟨#[],by rw[e];simp⟩) (λm hm=>?_) (λb u e=>?_) I.bare
 ·have e:=by simpa using hb
  subst e;exact⟨i,d,h,g⟩
 ·obtain⟨o,j,l,f,r⟩:=hm;exact⟨o,j,l,k _ o (BE d) f,r⟩
 ·refine(I.hok b u e).stay (λc v hc q=>k c v ?_ q) (λ_ q=>q) λ_ _ q=>q
  rcases hc with z|z
  ·rw[z];exact a b u e
  ·exact a c _ z
def Inv.tok(I:Inv X pins σ H s)t:=I.un (t':=t) Un.refl I.hok
theorem Inv.kept{t'}(I:Inv X pins σ H s)(k:∀b u,s.heap.get? b=AA u->h'.get? b=AA u):Inv X pins σ H {s with heap:=h',toks:=t'}:=I.un (Un.kept k) (I.hok.kept k)
theorem Inv.laid{a:AH}{o}{t'}(I:Inv X pins σ H s)(k:∀b u,s.heap.get? b=AA u->h'.get? b=AA u)(d:s.heap.objs.size<=a)(c:t0 X.prog X.w (upd H a o) h' a o):
  Inv X pins σ (upd H a o) {s with heap:=h',toks:=t'}:=I.un (Un.laid k d (I.hok.fresh d)) (I.hok.laid k d c)
theorem Inv.write{x e}{o}{t'}(I:Inv X pins σ H s)(d:Mut (H x))(f:e=x\/H e=AA (.own x))(k:∀b u,b≠e->s.heap.get? b=AA u->h'.get? b=AA u)(a:∃u,h'.get? e=AA u)
  (c:t0 X.prog X.w (upd H x o) h' x o):Inv X pins σ (upd H x o) {s with heap:=h',toks:=t'}:=I.un (Un.write d f k a) (I.hok.write d f k a c)
def Inv.pins_of{pins'}(I:Inv X pins σ H s)(h:∀p∈pins',s.heap.get? p.1=AA p.2/\H p.1=AD/\p.1≠X.env.locals/\p.1∉X.fs/\∀v,p.2.data≠.cell v):Inv X pins' σ H s:=
 ⟨I.ok,I.os,I.bare,I.base,I.loc,I.cell,I.free,I.freeC,λp hp=>(Ap.mp hp).elim (λz=>I.pin p (EQ _ z)) (h p),I.hok,I.len⟩
def ba1{N:List Str}(c:N.Nodup){j}(a:N[i]?=AA x)(b:N[j]?=AA x):i=j:=by
 obtain⟨g,e⟩:=AX.mp a;obtain⟨f,d⟩:=AX.mp b;exact(List.getElem_inj c).mp (e.trans d.symm)
def by3{M:Model}{A:BW}{E:AG->AJ->Prop}{v:V}{u:AG}{Q:Unit->AJ->Prop}(I:Inv X pins σ H s)(hN:X.N.Nodup)(hi:X.N[i]?=AA x)(C:Loc X.env.scope x)(r:i8 v u)
  (h:∀s',Inv X pins (σ.set i (AA v)) H s'->(∃a,Bc a s.heap s'.heap/\(a=X.env.locals\/X.env.cells.lookup x=AA a))->Q () s') (hf:X.fn x=AC\/X.env.scope.names.lookup x=AA .local:=by first|exact .inl rfl|exact .inr rfl|assumption):AR M A (storeName X.env x u) Q E s:=by
 obtain⟨m,hn,hl⟩:=id I.loc;have P:(X.env.scope.kind==.class||(X.env.scope.kind==.module&&X.env.locals != X.env.globals))=AF:=by rw[I.ok.kind];rfl
 have G:i<σ.length:=by rw[I.len];exact(AX.mp hi).1
 have K:=I.cne;have l:∀{a:AH}{h':BI},(∃o,s.heap.get? a=AA o/\H a=AD)->Bc a s.heap h'->HOk X.prog X.w H h':=λ{a h'}ha f b ob e=>by
  obtain⟨_,_,g⟩:=ha;refine(I.hok b ob e).stay (λc S B q=>(f.2 c ?_).trans q) (λ_ q=>q) λ_ _ q=>q;rintro rfl
  rcases B with rfl|B
  ·rw[g]at e;cases e
  ·rw[g]at B;cases B
 rcases C with F|F
 ·refine wpAny_storeName_local F hn (λh' hn' f=>?_) P;obtain⟨oL,_,_,hoL,_⟩:=id hn;refine h _ ⟨I.ok,I.os,I.bare,⟨λb o e n hb C=>?_,λb o e n hb C=>?_,I.base.free,λb o e C=>?_,I.base.tups,I.base.frzs,I.base.tbls⟩,⟨_,hn',λj y v' t e2 e3=>?_⟩,λy c e=>?_,I.free,I.freeC,λp hp=>?_,l ⟨oL,hoL,I.free⟩ f,by simpa using I.len⟩ ⟨_,f,.inl rfl⟩
  ·exact(f.2 b (BR (Ar (Ax e) I.ok.above))).trans (I.base.keep b o e n hb C)
  ·obtain⟨Z,t⟩:=I.base.slot b o e n hb C;exact⟨Z,(f.2 b (BR (Ar (Ax e) I.ok.above))).trans t⟩
  ·obtain⟨o',t⟩:=I.base.there b o e C;exact⟨o',(f.2 b (BR (Ar (Ax e) I.ok.above))).trans t⟩
  ·by_cases J:j=i
   ·subst J;rw[hi]at t;cases t;rw[Hl G]at e2;cases e2;exact⟨u,r,.inl ⟨F,∎⟩⟩
   ·rw[IJ (BE J)]at e2;obtain⟨Y,r',q⟩:=hl j y v' t e2 e3;refine⟨Y,r',?_⟩
    rcases q with⟨k,e⟩|⟨k,c,e,z⟩
    ·refine .inl ⟨k,?_⟩;have:y≠x:=λe=>J (ba1 hN t (e▸hi));simp[this,e]
    ·exact .inr ⟨k,c,e,z.sameBut f (K y c e)⟩
  ·obtain⟨S,z⟩:=I.cell y c e;exact⟨S,z.sameBut f (K y c e)⟩
  ·obtain⟨e,n,T,nf,d⟩:=I.pin p hp;exact⟨(f.2 p.1 T).trans e,n,T,nf,d⟩
 ·have D:X.fn x=AC:=by
   rcases hf with z|z
   ·exact z
   ·rw[z]at F;cases F
  obtain⟨c,B⟩:=I.ok.has x (.inl F);obtain⟨S,z⟩:=I.cell x c B;have g:H c=AD:=(I.freeC x c B).resolve_right λz=>by rw[D]at z;exact absurd z.1 ∅
  refine wpAny_storeName_cell I.ok.kind F B z (λh' hc' f=>?_);obtain⟨oc,O,L⟩:=id z;refine h {s with heap:=h'} ⟨I.ok,I.os,I.bare,⟨λb o e n hb C=>?_,λb o e n hb C=>?_,I.base.free,λb o e C=>?_,I.base.tups,I.base.frzs,I.base.tbls⟩,⟨m,hn.sameBut f (BE (K x c B)),λj y v' t e2 e3=>?_⟩,λy W e=>?_,I.free,I.freeC,λp hp=>?_,l ⟨oc,O,g⟩ f,by simpa using I.len⟩ ⟨c,f,.inr B⟩
  ·exact(f.2 b (BR (Ar (Ax e) (I.ok.cab x c (.inl D) B)))).trans (I.base.keep b o e n hb C)
  ·obtain⟨Z,t⟩:=I.base.slot b o e n hb C;exact⟨Z,(f.2 b (BR (Ar (Ax e) (I.ok.cab x c (.inl D) B)))).trans t⟩
  ·obtain⟨o',t⟩:=I.base.there b o e C;exact⟨o',(f.2 b (BR (Ar (Ax e) (I.ok.cab x c (.inl D) B)))).trans t⟩
  ·by_cases J:j=i
   ·subst J;rw[hi]at t;cases t;rw[Hl G]at e2;cases e2;exact⟨u,r,.inr ⟨.inl F,c,B,hc'⟩⟩
   ·rw[IJ (BE J)]at e2;obtain⟨Y,r',q⟩:=hl j y v' t e2 e3;refine⟨Y,r',?_⟩
    rcases q with q|⟨k,W,e,z'⟩
    ·exact .inl q
    ·refine .inr ⟨k,W,e,z'.sameBut f ?_⟩;rintro rfl;exact J (ba1 hN t (I.ok.inj _ _ _ e B▸hi))
  ·by_cases R:W=c
   ·subst R;exact⟨_,hc'⟩
   ·obtain⟨w2,z2⟩:=I.cell y W e;exact⟨w2,z2.sameBut f R⟩
  ·obtain⟨e,n,T,nf,d⟩:=I.pin p hp;refine⟨(f.2 p.1 ?_).trans e,n,T,nf,d⟩;intro q;rw[q,O]at e;have q':oc=p.2:=BA e;exact d S (by rw[<-q'];exact L)
def af6{M:Model}{A:BW}{E:AG->AJ->Prop}{v:V}{u:AG}{Q:Unit->AJ->Prop}(I:Inv X pins σ H s)(d:X.N.Nodup)(hi:X.N[i]?=AA x)(b:Loc X.env.scope x)(r:i8 v u)
  (h:∀s',Inv X pins (σ.set i (AA v)) H s'->Q () s') (c:X.fn x=AC\/X.env.scope.names.lookup x=AA .local:=by first|exact .inl rfl|exact .inr rfl|assumption):AR M A (storeName X.env x u) Q E s:=
 by3 I d hi b r (λs' I' _=>h s' I') c
end
@[reducible]noncomputable def XK:=AG->Option AH->Hp->Prop
@[reducible]noncomputable def St:=List (Option V)
@[reducible]noncomputable def VK:=V->Hp->Prop
@[reducible]noncomputable def TE:=St->Hp->VK->Prop
@[reducible]noncomputable def TT:=St->Hp->(Bool->Hp->Prop)->Prop
@[reducible]noncomputable def TA:=St->Hp->(List V->Hp->Prop)->Prop
structure Ends where
 nx:St->Hp->Prop
 rt:VK
 bk:St->Hp->Prop:=λ_ _=>False
 ct:St->Hp->Prop:=λ_ _=>False
@[reducible]noncomputable def TS:=Ends->St->Hp->Prop
abbrev EP(X:Cx)(pins:List (AH×Obj))(σ:St)(Q:VK)(u:AG)(s':AJ):Prop:=∃v H',Inv X pins σ H' s'/\i8 v u/\Q v H'
abbrev TP(X:Cx)(pins:List (AH×Obj))(σ:St)(Q:Bool->Hp->Prop)(b:Bool)(s':AJ):Prop:=∃H',Inv X pins σ H' s'/\Q b H'
abbrev AP(X:Cx)(pins:List (AH×Obj))(σ:St)(Q:List V->Hp->Prop)(us:List AG)(s':AJ):Prop:=∃vs H',Inv X pins σ H' s'/\i6 vs us/\Q vs H'
abbrev SP(X:Cx)(pins:List (AH×Obj))(D:Ends)(f:Flow)(s':AJ):Prop:=
 match f with
 |.next=>∃σ' H',Inv X pins σ' H' s'/\D.nx σ' H'
 |.brk=>∃σ' H',Inv X pins σ' H' s'/\D.bk σ' H'
 |.cont=>∃σ' H',Inv X pins σ' H' s'/\D.ct σ' H'
 |.ret u=>∃v σ' H',Inv X pins σ' H' s'/\i8 v u/\D.rt v H'
abbrev PE(X:Cx)(e:AS)(t:TE):Prop:=
 ∀(pins:List (AH×Obj))(s:AJ)(σ:St)(H:Hp)(Q:VK),Inv X pins σ H s->t σ H Q->AR (model X.prog X.w) X.A (eval e X.env) (EP X pins σ Q) X.xe s
abbrev PT(X:Cx)(e:AS)(t:TT):Prop:=
 ∀(pins:List (AH×Obj))(s:AJ)(σ:St)(H:Hp)(Q:Bool->Hp->Prop),Inv X pins σ H s->t σ H Q->AR (model X.prog X.w) X.A (Hy e X.env (eval e X.env)) (TP X pins σ Q) X.xe s
abbrev PW(X:Cx)(e:AS)(t:TT):Prop:=
 ∀(whole:Sem AG)(pins:List (AH×Obj))(s:AJ)(σ:St)(H:Hp)(Q:Bool->Hp->Prop),Inv X pins σ H s->t σ H Q->AR (model X.prog X.w) X.A (Hy e X.env whole) (TP X pins σ Q) X.xe s
def PW.pt{X:Cx}{e:AS}{t:TT}(h:PW X e t):PT X e t:=h _
abbrev PA(X:Cx)(es:List AS)(t:TA):Prop:=
 ∀(pos:Pos)(pins:List (AH×Obj))(s:AJ)(σ:St)(H:Hp)(Q:List V->Hp->Prop),Inv X pins σ H s->t σ H Q->AR (model X.prog X.w) X.A (spliced (CH pos (An es X.env))) (AP X pins σ Q) X.xe s
abbrev PS(X:Cx)(st:Bf)(t:TS):Prop:=
 ∀(pins:List (AH×Obj))(s:AJ)(σ:St)(H:Hp)(D:Ends),Inv X pins σ H s->t D σ H->AR (model X.prog X.w) X.A (exec st X.env) (SP X pins D) X.xe s
abbrev PSs(X:Cx)(st:List Bf)(t:TS):Prop:=
 ∀(pins:List (AH×Obj))(s:AJ)(σ:St)(H:Hp)(D:Ends),Inv X pins σ H s->t D σ H->AR (model X.prog X.w) X.A (execs st X.env) (SP X pins D) X.xe s
def thn{α}{t:Sem α}{Q Q'}{M}{A}{E}{s}(h:AR M A t Q E s)(b:∀a s,Q a s->Q' a s):AR M A t Q' E s:=Bq h b λ_ _ x=>x
end L2
namespace L2
open PySem PySem.Spec PyProof.Rows
variable{pins:List (AH×Obj)}{s:AJ}{σ:St}{H:Hp}{x:Str}{pos:Pos}{u:AG}{op:Dw}
section
variable {X:Cx}
def bin{a b}{ta tb}(n:PE X a ta)(m:PE X b tb){R:V->V->Hp->Prop}(I:Inv X pins σ H s)(h:ta σ H λx e=>tb σ e λy c=>R x y c)
  {α} {Q} {f:AG->AG->Sem α}
  (l:∀v u d x y c,Inv X pins σ c d->i8 x v->i8 y u->R x y c->AR (model X.prog X.w) X.A (f v u) Q X.xe d) :
  AR (model X.prog X.w) X.A (eval a X.env) (λv s₁=>AR (model X.prog X.w) X.A (eval b X.env) (λu s₂=>AR (model X.prog X.w) X.A (f v u) Q X.xe s₂) X.xe s₁) X.xe s:=by
 refine thn (n pins s σ H _ I h) λv s1 z0=>?_;obtain⟨x,e,p,i,k⟩:=z0;refine thn (m pins s1 σ e _ p k) λu d z1=>?_;obtain⟨y,c,o,g,j⟩:=z1;exact l v u d x y c o i g j
abbrev dd5(i:Nat):TE:=λσ H Q=>∃v,σ[i]?=AA (AA v)/\Q v H
abbrev tC(v:V):TE:=λ_ H Q=>Q v H
def au7{i:Nat}(w:X.N[i]?=AA x)(o:Vis X.env.scope x)(g:(x==("__debug__":Str))=AF:=by decide)(j:(x==("__classdict__":Str))=AF:=by decide):PE X (.Name x pos) (dd5 i):=by
 intro f s n H Q I h;obtain⟨v,e,h⟩:=h;obtain⟨m,p,t⟩:=I.loc;obtain⟨u,r,l⟩:=t i x v w e o;have d:EP X f n Q u s:=⟨v,H,I,r,h⟩
 rcases l with⟨b,q⟩|⟨b,c,k,a⟩
 ·exact Jk (wpAny_loadName_local I.ok.kind b p q d) g
 ·rcases b with b|b
  ·exact Jk (wpAny_loadName_cell I.ok.kind b k a d) g
  ·exact Jk (wpAny_loadName_free I.ok.kind b k a d j) g
def cl8{i j pos}:PE X (.Constant (.int i) j pos) (tC (.int i)):=λ_ _ _ H _ I h=>wpAny_Constant_int ⟨.int i,H,I.tok _,⟨_,rfl⟩,h⟩
def c06{b j pos}:PE X (.Constant (.bool b) j pos) (tC (.bl b)):=λ_ _ _ H _ I h=>Constant_bool ⟨.bl b,H,I,rfl,h⟩
def cq0{j pos}:PE X (.Constant .none j pos) (tC .non):=λ_ _ _ H _ I h=>IP ⟨.non,H,I,rfl,h⟩
def bi5{x j pos}:PE X (.Constant (.str x) j pos) (tC (.str x)):=λ_ _ _ H _ I h=>Calls.Constant_str ⟨.str x,H,I.tok _,⟨_,rfl⟩,h⟩
abbrev Gl(X:Cx)(x:Str):Prop:=X.env.kindOf x=AA .globalImplicit
def W0{E:AG->AJ->Prop}{a:Pos}{Q:AG->AJ->Prop}(I:Inv X pins σ H s)(c:Gl X x)(b:X.mg x=AA u)(h:Q u s)
  (d:(x==("__debug__":Str))=AF:=by decide):AR (model X.prog X.w) X.A (eval (.Name x a) X.env) Q E s:=
 Gq I.ok.kind c (Calls.loadGlobal_global (by rw[I.ok.glob];exact I.mod.glob.keeps I.bk) b h) d
def J7{E:AG->AJ->Prop}{a:Pos}{Q:AG->AJ->Prop}(I:Inv X pins σ H s)(e:Gl X x)(d:X.mg x=AD)(b:Bn x=AA u)(h:Q u s)
  (c:x≠"__name__":=by decide) (f:(x==("__debug__":Str))=AF:=by decide):AR (model X.prog X.w) X.A (eval (.Name x a) X.env) Q E s:=by
 obtain⟨j,i,g⟩:=I.mod.blt;exact Gq I.ok.kind e (Calls.loadGlobal_builtin (by rw[I.ok.glob];exact I.mod.glob.keeps I.bk) d (by rw[I.ok.blt];exact i.keeps I.bk) ((g x c).trans b) h) f
def bg0{v:V}(b:Gl X x)(a:X.mg x=AA u)(r:i8 v u)(c:(x==("__debug__":Str))=AF:=by decide):PE X (.Name x pos) (tC v):=
 λ_ _ _ H _ I h=>W0 I b a ⟨v,H,I,r,h⟩ c
variable {a b:AS} {ta tb:TE} 
abbrev PC(X:Cx)(op:Dw)(a b:AS)(t:TE):Prop:=
 ∀(pins:List (AH×Obj))(s:AJ)(σ:St)(H:Hp)(Q:VK),Inv X pins σ H s->t σ H Q ->
  AR (model X.prog X.w) X.A (eval a X.env) (λv s₁=>AR (model X.prog X.w) X.A (eval b X.env) (λu s₂=>AR (model X.prog X.w) X.A (By op v u) (EP X pins σ Q) X.xe s₂) X.xe s₁) X.xe s
def ba9(b:AS)(h:op≠.In)(d:op≠.NotIn):Cd op b=AF:=by
 have c:(op==CmpOp.In)=AF:=by lia
 have a:(op==Hz)=AF:=by lia
 cases b<;>simp[Cd,c,a]
abbrev dc8(ta:TE):TE:=λσ H Q=>ta σ H λx H1=>Q (.bl (AE (x=.non))) H1
abbrev c02(ta:TE):TE:=λσ H Q=>ta σ H λx H1=>Q (.bl (!decide (x=.non))) H1
def i8.none_iff{x}{v}(r:i8 x v):(v==Bz)=AE (x=.non):=by
 cases x with
 |non=>cases r;rfl
 |bl _=>cases r;rfl
 |int _=>obtain⟨t,rfl⟩:=r;rfl
 |str _=>obtain⟨t,rfl⟩:=r;rfl
 |byt _=>obtain⟨t,rfl⟩:=r;rfl
 |flt _=>obtain⟨t,rfl⟩:=r;rfl
 |ref _=>cases r;rfl
 |ty _=>cases r;rfl
def bj0{j pos'}(f:PE X a ta):PC X .Is a (.Constant .none j pos') (dc8 ta):=by
 intro b s c H Q I h;refine thn (f b s c H _ I h) λv s1 z2=>?_;obtain⟨x,i,g,d,e⟩:=z2;exact IP (is_none_gen ⟨.bl _,i,g,by rw[d.none_iff];rfl,e⟩)
def bg6{j pos'}(f:PE X a ta):PC X .IsNot a (.Constant .none j pos') (c02 ta):=by
 intro b s c H Q I h;refine thn (f b s c H _ I h) λv s1 z3=>?_;obtain⟨x,i,g,d,e⟩:=z3;exact IP (isnot_none_gen ⟨.bl _,i,g,by rw[d.none_iff];rfl,e⟩)
abbrev tB(t:TE):TT:=λσ H Q=>t σ H λx H1=>∃c,x=.bl c/\Q c H1
def bi1{t:TE}(h:PC X op a b t)(c:Cd op b=AF:=by first|exact ba9 _ ∅ ∅|rfl):PE X (.Compare a [op] [b] pos) t:=λpins s σ H Q I hw=>LC (h pins s σ H Q I hw) c
def bk7{t:TE}(h:PC X op a b t)(e:Cd op b=AF:=by first|exact ba9 _ ∅ ∅|rfl):PT X (.Compare a [op] [b] pos) (tB t):=by
 intro c s f H Q I j;refine JC (thn (h c s f H _ I j) λv s1 e=>thn e λu s2 h2=>thn h2 λc s3 z4=>?_) e;obtain⟨x,l,k,g,i⟩:=z4;obtain⟨d,rfl,q⟩:=i;cases g;exact DC ⟨l,k,q⟩
def cm5{e:AS}{t:TE}(h:PE X e t)(j:∀a,Hy e X.env a=(do let v <-a;Hm e.pos;holding [v] (truthy v)):=by intro _;rfl):PT X e (tB t):=by
 intro b s c H Q I i;refine isTrue_plain (thn (h b s c H _ I i) λv s1 z5=>?_) (j _);obtain⟨x,l,k,f,g⟩:=z5;obtain⟨d,rfl,q⟩:=g;cases f;exact DC ⟨l,k,q⟩
variable {tA tB':TT} {l6:List AS}
abbrev dh5(t u:TT):TT:=λσ H Q=>t σ H λc H1=>if c=AC then u σ H1 Q else Q AF H1
abbrev tOr(t u:TT):TT:=λσ H Q=>t σ H λc H1=>if c=AC then Q AC H1 else u σ H1 Q
abbrev de1(t:TT):TT:=λσ H Q=>t σ H λc H1=>Q (!c) H1
def cj1(f:PT X a tA):PW X (.BoolOp .And [a] pos) tA:=by
 intro g b s d H Q I h;refine isTrue_and (thn (f b s d H Q I h) λc s1 e=>?_);cases c with
 |true=>exact isTrue_and_nil e
 |false=>exact e
def cv5(f:PT X a tA):PW X (.BoolOp .Or [a] pos) tA:=by
 intro g b s d H Q I h;refine isTrue_or (thn (f b s d H Q I h) λc s1 e=>?_);cases c with
 |false=>exact isTrue_or_nil e
 |true=>exact e
def co3(i:PT X a tA)(g:PW X (.BoolOp .And (b::l6) pos) tB'):PW X (.BoolOp .And (a::b::l6) pos) (dh5 tA tB'):=by
 intro f d s e H Q I h;refine isTrue_and (thn (i d s e H _ I h) λc s1⟨H1,I1,q1⟩=>?_);cases c with
 |true=>exact g f d s1 e H1 Q I1 q1
 |false=>exact⟨H1,I1,q1⟩
def c23(i:PT X a tA)(g:PW X (.BoolOp .Or (b::l6) pos) tB'):PW X (.BoolOp .Or (a::b::l6) pos) (tOr tA tB'):=by
 intro f d s e H Q I h;refine isTrue_or (thn (i d s e H _ I h) λc s1⟨H1,I1,q1⟩=>?_);cases c with
 |true=>exact⟨H1,I1,q1⟩
 |false=>exact g f d s1 e H1 Q I1 q1
def cx9(e:PT X a tA):PT X (.UnaryOp .Not a pos) (de1 tA):=by
 intro b s d H Q I h;exact isTrue_not (e b s d H (λc H1=>Q (!c) H1) I h)
abbrev c79(ta tb:TE):TE:=λσ H Q=>ta σ H λx H1=>∃c,x=.bl c/\if c=AC then tb σ H1 Q else Q (.bl AF) H1
abbrev dh0(ta tb:TE):TE:=λσ H Q=>ta σ H λx H1=>∃c,x=.bl c/\if c=AC then Q (.bl AC) H1 else tb σ H1 Q
abbrev c71(ta:TE):TE:=λσ H Q=>ta σ H λx H1=>∃c,x=.bl c/\Q (.bl (!c)) H1
def bi6{op}{t}(h:PE X a t):PE X (.BoolOp op [a] pos) t:=λpins s σ H Q I hw=>BoolOp_one (h pins s σ H Q I hw)
def cu1(l:PE X a ta)(k:PE X (.BoolOp .And (b::l6) pos) tb):PE X (.BoolOp .And (a::b::l6) pos) (c79 ta tb):=by
 intro d s f H Q I h;refine BoolOp_and (thn (l d s f H _ I h) λv s1 z6=>?_);obtain⟨x,i,g,j,e⟩:=z6;obtain⟨c,rfl,e⟩:=e;cases j;refine DC ?_;cases c with
 |true=>exact k d s1 f i Q g e
 |false=>exact⟨.bl AF,i,g,rfl,e⟩
def c52(l:PE X a ta)(k:PE X (.BoolOp .Or (b::l6) pos) tb):PE X (.BoolOp .Or (a::b::l6) pos) (dh0 ta tb):=by
 intro d s f H Q I h;refine BoolOp_or (thn (l d s f H _ I h) λv s1 z7=>?_);obtain⟨x,i,g,j,e⟩:=z7;obtain⟨c,rfl,e⟩:=e;cases j;refine DC ?_;cases c with
 |false=>exact k d s1 f i Q g e
 |true=>exact⟨.bl AC,i,g,rfl,e⟩
def cx5(g:PE X a ta):PE X (.UnaryOp .Not a pos) (c71 ta):=by
 intro b s e H Q I h;refine UnaryOp_ (thn (g b s e H _ I h) λv s1 z8=>?_);obtain⟨x,j,i,f,d⟩:=z8;obtain⟨c,rfl,d⟩:=d;cases f;exact not_of (DC ⟨.bl (!c),j,i,rfl,d⟩)
abbrev tIf(t:TT)(ta tb:TE):TE:=λσ H Q=>t σ H λc H1=>if c=AC then ta σ H1 Q else tb σ H1 Q
def b37{c:AS}(g:PT X c tA)(j:PE X a ta)(i:PE X b tb):PE X (.IfExp c a b pos) (tIf tA ta tb):=by
 intro e s f H Q I h;refine wpAny_IfExp (thn (g e s f H _ I h) λd s1⟨H1,I1,q1⟩=>?_);cases d with
 |true=>exact j e s1 f H1 Q I1 q1
 |false=>exact i e s1 f H1 Q I1 q1
end
end L2
namespace L2
open PySem PySem.Spec PyProof.Rows
variable{u:AG}{X:Cx}{pins:List (AH×Obj)}{σ:St}{H:Hp}{s:AJ}{e tg:AS}{te:TE}{pos:Pos}{P:Al}
abbrev SqL(K:AQ)(H:Hp)(a:AH)(xs:List V):Prop:=
 Rd H a (.lst xs)\/
  ∃(o:Obj)(its:Array AG)(n:Nat),K.lookup a=AA o/\o.cls=.type "list"/\o.dict=AD/\o.data=.seq its n/\its.size<=sizeLine/\i6 xs its.toList
abbrev SqT(K:AQ)(H:Hp)(a:AH)(xs:List V):Prop:=
 Rd H a (.tup xs)\/
  ∃(o:Obj)(its:Array AG)(n:Nat),K.lookup a=AA o/\o.cls=.type "tuple"/\o.dict=AD/\o.data=.seq its n/\its.size<=sizeLine/\i6 xs its.toList
abbrev dd6:AG->Option V
 |.none=>AA .non
 |.bool b=>AA (.bl b)
 |.int i _=>AA (.int i)
 |.str x _=>AA (.str x)
 |.bytes b _=>AA (.byt b)
 |.float b _=>AA (.flt b)
 |.ref a=>AA (.ref a)
 |.type n=>AA (.ty n)
 |_=>AD
def i8.abs{x}(r:i8 x u):dd6 u=AA x:=by
 cases x with
 |non=>cases r;rfl
 |bl _=>cases r;rfl
 |int _=>obtain⟨t,rfl⟩:=r;rfl
 |str _=>obtain⟨t,rfl⟩:=r;rfl
 |byt _=>obtain⟨t,rfl⟩:=r;rfl
 |flt _=>obtain⟨t,rfl⟩:=r;rfl
 |ref _=>cases r;rfl
 |ty _=>cases r;rfl
theorem i8.inj{x y}(r:i8 x u)(q:i8 y u):x=y:=BA (r.abs.symm.trans q.abs)
theorem i6.inj:∀{b a}{c},i6 b c->i6 a c->b=a
 |_,_,_,.nil,.nil=>rfl
 |_,_,_,.cons r t,.cons e d=>by rw[r.inj e,i6.inj t d]
section
variable {a:AH} {xs ys:List V}
def Inv.list(I:Inv X pins σ H s)(h:SqL X.K H a xs):∃b:List AG,i6 xs b/\PlainL s.heap a b.toArray/\xs.length<=sizeLine:=by
 rcases h with h|⟨o,b,n,d,g,f,c,i,r⟩
 ·obtain⟨z,b,n,r,e⟩:=h.ok I.hok;exact⟨b,r,⟨_,n,e,rfl,rfl,rfl⟩,z⟩
 ·refine⟨b.toList,r,⟨o,n,I.kIn a o d,g,f,by simpa using c⟩,?_⟩;have e:=r.length;simp at e;lia
def Inv.tupleD(I:Inv X pins σ H s)(h:SqT X.K H a xs):∃b:List AG,i6 xs b/\G4 s.heap a b.toArray/\xs.length<=sizeLine:=by
 rcases h with h|⟨o,b,n,f,g,c,d,i,r⟩
 ·obtain⟨z,b,r,p⟩:=h.ok I.hok;exact⟨b,r,p,z⟩
 ·refine⟨b.toList,r,⟨o,I.kIn a o f,g,c,n,by simpa using d⟩,?_⟩;have e:=r.length;simp at e;lia
def Inv.tuple(I:Inv X pins σ H s)(h:SqT X.K H a xs):∃b:List AG,i6 xs b/\Gn s.heap a b.toArray/\xs.length<=sizeLine:=by
 obtain⟨b,r,p,z⟩:=I.tupleD h;exact⟨b,r,p.tup,z⟩
def Inv.list_inj(I:Inv X pins σ H s)(h:SqL X.K H a xs)(h':SqL X.K H a ys):xs=ys:=by
 obtain⟨c,r,⟨o,n,e,_,_,d⟩,_⟩:=I.list h;obtain⟨b,f,⟨g,i,j,_,_,k⟩,_⟩:=I.list h';have:c=b:=by simp_all
 subst this;exact r.inj f
def Inv.tuple_inj(I:Inv X pins σ H s)(h:SqT X.K H a xs)(h':SqT X.K H a ys):xs=ys:=by
 obtain⟨c,r,⟨o,e,_,n,d⟩,_⟩:=I.tuple h;obtain⟨b,f,⟨g,j,_,i,k⟩,_⟩:=I.tuple h';have:c=b:=by simp_all
 subst this;exact r.inj f
end
section
variable {st:Bf} {l6:List Bf} {t u:TS} 
abbrev bn3:TS:=λD σ H=>D.nx σ H
abbrev df0(t u:TS):TS:=λD σ H=>t {D with nx:=u D} σ H
def ck2:PSs X [] bn3:=λ_ _ σ H _ I h=>Hi ⟨σ,H,I,h⟩
def b46(i:PS X st t)(g:PSs X l6 u):PSs X (st::l6) (df0 t u):=by
 intro a s d H D I h;refine wpAny_execs_cons (thn (i a s d H {D with nx:=u D} I h) λf s1 q=>?_);cases f with
 |next=>
  obtain⟨b,l,k,q⟩:=q;exact g a s1 b l D k q
 |ret v=>exact q
 |brk=>exact q
 |cont=>exact q
abbrev db0:TS:=λD σ H=>D.ct σ H
def cd4:PS X (.Pass pos) bn3:=λ_ _ σ H _ I h=>wpAny_Pass ⟨σ,H,I,h⟩
def bs4:PS X (.Continue pos) db0:=λ_ _ σ H _ I h=>wpAny_Continue ⟨σ,H,I,h⟩
def Inv.quiet(I:Inv X pins σ H s):interactive X.env=AF:=by simp[interactive,I.ok.kind]
abbrev c40(te:TE):TS:=λD σ H=>te σ H λ_ H1=>D.nx σ H1
def cc1(d:PE X e te)(c:Cw e AD pos.line X.env=pure AF:=by rfl):PS X (.Expr e pos) (c40 te):=by
 intro a s b H D I h;exact wpAny_Expr_any (thn (d a s b H _ I h) λv s1⟨x,H1,I1,r1,q1⟩=>⟨b,H1,I1,q1⟩) I.quiet c
abbrev di5(te:TE):TS:=λD σ H=>te σ H D.rt
def cx1(c:PE X e te):PS X (.Return (AA e) pos) (di5 te):=by
 intro a s b H D I h;exact wpAny_Return_some (thn (c a s b H _ I h) λv s1⟨x,H1,I1,r1,q1⟩=>⟨x,b,H1,I1,r1,q1⟩)
abbrev c61:TS:=λD _ H=>D.rt .non H
def cg3:PS X (.Return AD pos) c61:=λ_ _ σ H _ I h=>wpAny_Return_none ⟨.non,σ,H,I,rfl,h⟩
abbrev dh9(c:TT)(t u:TS):TS:=λD σ H=>c σ H λb H1=>if b=AC then t D σ H1 else u D σ H1
def c54{c:AS}{a b:List Bf}{g:TT}(i:PT X c g)(k:PSs X a t)(j:PSs X b u):PS X (.If c a b pos) (dh9 g t u):=by
 intro e s f H D I h;refine wpAny_If (thn (i e s f H _ I h) λd s1⟨H1,I1,q1⟩=>?_);cases d with
 |true=>exact k e s1 f H1 D I1 q1
 |false=>exact j e s1 f H1 D I1 q1
end
@[reducible]noncomputable def TG:=V->St->Hp->(St->Hp->Prop)->Prop
@[reducible]noncomputable def TGs:=List V->St->Hp->(St->Hp->Prop)->Prop
abbrev PG(X:Cx)(target:AS)(t:TG):Prop:=
 ∀(pins:List (AH×Obj))(s:AJ)(σ:St)(H:Hp)(v:V)(u:AG)(Q:St->Hp->Prop),Inv X pins σ H s->i8 v u->t v σ H Q ->
  AR (model X.prog X.w) X.A (assign target X.env u) (λ_ s'=>∃σ' H',Inv X pins σ' H' s'/\Q σ' H') X.xe s
abbrev PGs(X:Cx)(ts:List AS)(t:TGs):Prop:=
 ∀(pins:List (AH×Obj))(s:AJ)(σ:St)(H:Hp)(vs:List V)(us:List AG)(Q:St->Hp->Prop),Inv X pins σ H s->i6 vs us->t vs σ H Q ->
  AR (model X.prog X.w) X.A (assignInOrder ((CS ts X.env).map (·.2)) us) (λ_ s'=>∃σ' H',Inv X pins σ' H' s'/\Q σ' H') X.xe s
@[reducible]noncomputable def ay3:=V->V->V->Hp->(Hp->Prop)->Prop
abbrev bp0(X:Cx)(t:ay3):Prop:=
 ∀(pins:List (AH×Obj))(s:AJ)(σ:St)(H:Hp)(o i v:V)(ov iv u:AG)(Q:Hp->Prop),Inv X pins σ H s->i8 o ov->i8 i iv->i8 v u->t o i v H Q ->
  AR (model X.prog X.w) X.A (KB ov iv u) (λ_ s'=>∃H',Inv X pins σ H' s'/\Q H') X.xe s
section
abbrev aw1(i:Nat):TG:=λv σ H Q=>Q (σ.set i (AA v)) H
def bd6{i:Nat}{x:Str}(d:X.N.Nodup)(hi:X.N[i]?=AA x)(b:Loc X.env.scope x)(c:X.fn x=AC\/X.env.scope.names.lookup x=AA .local:=by first|exact .inl rfl|exact .inr rfl|assumption):PG X (.Name x pos) (aw1 i):=by
 intro a s e H v u Q I r h;exact KC (af6 I d hi b r (λs' I'=>⟨_,H,I',h⟩) c)
abbrev bp8:TGs:=λvs σ H Q=>vs=[]/\Q σ H
abbrev bm9(t:TG)(u:TGs):TGs:=λvs σ H Q=>∃v r,vs=v::r/\t v σ H λσ' H'=>u r σ' H' Q
def cb8:PGs X [] bp8:=by
 intro a s b H c d Q I r h;obtain⟨e,h⟩:=h;exact assignInOrder_nil ⟨b,H,I,h⟩
def b86{b:List AS}{t:TG}{u:TGs}(l:PG X e t)(k:PGs X b u)
  (j:(CS (e::b) X.env).map (·.2)=assign e X.env::(CS b X.env).map (·.2):=by rfl):PGs X (e::b) (bm9 t u):=by
 intro a s f H p w Q I r h;obtain⟨v,q,m,h⟩:=h;subst m;cases r with
 |cons r g=>
  rw[j];refine assignInOrder_cons (thn (l a s f H _ _ _ I r h) λ_ s1 z9=>?_);obtain⟨c,o,n,i⟩:=z9;exact k a s1 c o _ _ Q n g i
abbrev dh6(K:AQ)(n:Nat)(t:TGs):TG:=λv σ H Q=>∃a xs,v=.ref a/\SqT K H a xs/\xs.length=n/\t xs σ H Q
def cx0{d:List AS}{k:Nat}{t:TGs}{n:Nat}(y:X.calm=AC)(h:PGs X d t)
  (w:(CS d X.env).length=n:=by rfl) (g:(CS d X.env).findIdx? (·.1)=AD:=by rfl):PG X (.Tuple d k pos) (dh6 X.K n t):=by
 intro c s i H v u Q I r f;obtain⟨a,l,z,q,x,f⟩:=f;subst z;cases r;obtain⟨m,j,p,B⟩:=I.tuple q;refine assign_Tuple_tuple (I.ok.hd y) p (by simp[w,<-x,j.length]) g λh' hx=>?_;have A:Inv X c i H {s with heap:=h'}:=I.kept (t':=s.toks) λb o e=>hx b o (BR (Ax e)) e;exact h c _ i H l _ Q A (by simpa using j) f
abbrev db7(to ti:TE)(t:ay3):TG:=λv σ H Q=>to σ H λo H1=>ti σ H1 λi H2=>t o i v H2 λH3=>Q σ H3
def cn6{o i:AS}{e f:TE}{t:ay3}(n:PE X o e)(hi:PE X i f)(m:bp0 X t)
  (p:∀v,assign (.Subscript o i pos) X.env v=(do
   let ov <-holding [v] (eval o X.env)
   let iv <-holding [v,ov] (eval i X.env)
   Hm pos
   holding [v,ov,iv] (KB ov iv v)
   release [v,ov,iv] []):=by intro _;rfl):PG X (.Subscript o i pos) (db7 e f t):=by
 intro a s c H v u Q I r h;rw[p];refine AB (CO (thn (n a s c H _ I h) λov s1 z10=>?_));obtain⟨x,A,w,j,l⟩:=z10;refine AB (CO (thn (hi a s1 c A _ w l) λiv s2 z11=>?_));obtain⟨y,z,q,g,k⟩:=z11;refine AB (IQ (AB (CO (thn (m a s2 c z x y v ov iv u _ q j g r k) λ_ s3⟨H3,I3,q3⟩=>?_))));exact wpAny_release ⟨c,H3,I3,q3⟩
abbrev bp7(te:TE)(g:TG):TS:=λD σ H=>te σ H λx H1=>g x σ H1 D.nx
def cn5{g:TG}(k:PE X e te)(j:PG X tg g)(i:GX [tg] e pos.line X.env=pure AF:=by rfl)(f:swappedStores [tg] e X.env=pure AD:=by rfl)
  (l:(CS [tg] X.env).map (·.2)=[assign tg X.env]:=by rfl):PS X (.Assign [tg] e pos) (bp7 te g):=by
 intro a s b H D I h;refine wpAny_Assign_stores (thn (k a s b H _ I h) λv s1 z12=>?_) i f;obtain⟨x,n,m,c,d⟩:=z12;rw[l];exact thn (j a s1 b n x v _ m c d) λ_ s2 q=>q
def cl6{i:Nat}{x:Str}{a:Pos}(m:X.N.Nodup)(hi:X.N[i]?=AA x)(g:Loc X.env.scope x)(l:PE X e te)(j:Cw e (AA (.Name x a)) pos.line X.env=pure AF:=by rfl)(k:X.fn x=AC\/X.env.scope.names.lookup x=AA .local:=by first|exact .inl rfl|exact .inr rfl|assumption):
  PS X (.Assign [.Name x a] e pos) (bp7 te (aw1 i)):=by
 intro b s c H D I h;refine wpAny_Assign_Name (thn (l b s c H _ I h) λv s1 z13=>?_) j;obtain⟨y,o,n,d,f⟩:=z13;exact af6 n m hi g d (λs2 I2=>⟨_,o,I2,f⟩) k
end
section
abbrev cv9(c:TT)(tb:TS):TS:=λD σ H=>∃W:Nat->St->Hp->Prop,(∃m,W m σ H)/\∀m σ H,W m σ H ->
 c σ H λb H1=>if b=AC then ∃N:St->Hp->Prop,(∀σ' H',N σ' H'->∃m',m'<m/\W m' σ' H')/\tb {D with nx:=N,ct:=N,bk:=D.nx} σ H1 else D.nx σ H1
def b35{c}{body}{tc}{tb}(q:HI (model X.prog X.w) X.A X.env X.xe)(C:PT X c tc)(E:PSs X body tb):PS X (.While c body [] pos) (cv9 tc tb):=by
 intro d s x H D I h;obtain⟨W,⟨B,y⟩,g⟩:=h;refine wpAny_While (codeAny_whileLoop (λn s'=>∃e u,Inv X d e u s'/\W n e u) ?_ B ⟨x,H,I,y⟩);rintro n s1 ⟨σ1,H1,I1,w1⟩;refine Cu q (thn (C d s1 σ1 H1 _ I1 (g n σ1 H1 w1)) λb s2⟨H2,I2,j⟩=>?_);cases b with
 |true=>
  obtain⟨N,r,j⟩:=j;refine Cu q (thn (E d s2 σ1 H2 _ I2 j) λf s3 q3=>?_);cases f with
  |next=>
   obtain⟨a,i,p,l⟩:=q3;obtain⟨m,o,k⟩:=r a i l;exact⟨m,o,a,i,p,k⟩
  |cont=>
   obtain⟨a,i,p,l⟩:=q3;obtain⟨m,o,k⟩:=r a i l;exact⟨m,o,a,i,p,k⟩
  |brk=>exact q3
  |ret v=>exact q3
 |false=>
  exact Hi ⟨σ1,H2,I2,j⟩
end
structure It where
 go:Nat->Hp->Prop
 yld:Nat->Hp->V->Hp->Prop
 stop:Nat->Hp->Prop
abbrev D6(X:Cx)(pins:List (AH×Obj))(H:Hp)(b:AH):Prop:=
 H b=AD/\b≠X.env.locals/\b∉X.fs/\(b∈X.ex\/X.s₀.heap.objs.size<=b)/\(∀x c,X.env.cells.lookup x=AA c->c≠b)/\∀p∈X.pn++pins,p.1≠b
def Inv.fpOk{H'}{b:AH}(I:Inv X pins σ H s)(a:s.heap.objs.size<=b)(d:H' b=AD):D6 X pins H' b:=by
 refine⟨d,Ex (Ar I.lt a),I.nofs a,.inr (Bd I.sz a),λx c e z=>?_,λp hp z=>?_⟩
 ·obtain⟨v,q⟩:=I.cell x c e;exact absurd (Ar q.lt (by simp_all)) (DL _)
 ·exact absurd (Ar (Ax (I.pin p hp).1) (by simp_all)) (DL _)
structure Turn(P:Al)(w:Ay)(K:AQ)(tg:AS)(J:It)(fp:List AH)(it:AH)(tn:Nat->BI->Prop):Prop where
 mem:it∈fp
 obj:∀i h,tn i h->∀b∈fp,∃o,h.get? b=AA o/\∀v,o.data≠.cell v
 keep:∀i h h',tn i h->(∀b∈fp,∀o,h.get? b=AA o->h'.get? b=AA o)->tn i h'
 item:∀(X:Cx),X.prog=P->X.w=w->X.K=K->X.calm=AC->∀(i:Nat)(pins:List (AH×Obj))(s:AJ)(σ:St)(H:Hp)(E:AG->AJ->Prop),Inv X pins σ H s->(∀b∈fp,D6 X pins H b)->tn i s.heap->J.go i H ->
  AR (model P w) X.A (Ec (.ref it)) (λr s1=>∃u,r=AA u /\
   AR (model P w) X.A (FQ tg (.ref it) u) (λ_ s2=>∃x H',Inv X pins σ H' s2/\i8 x u/\J.yld i H x H'/\tn (i+1) s2.heap/\∀b∈fp,H' b=AD) E s1) E s
 done:∀(X:Cx),X.prog=P->X.w=w->X.K=K->X.calm=AC->∀(i:Nat)(pins:List (AH×Obj))(s:AJ)(σ:St)(H:Hp)(E:AG->AJ->Prop),Inv X pins σ H s->(∀b∈fp,D6 X pins H b)->tn i s.heap->J.stop i H ->
  AR (model P w) X.A (Ec (.ref it)) (λr s1=>r=AD/\Inv X pins σ H s1) E s
 self:∀(A:BW)(i:Nat)(s:AJ)(Q:AG->AJ->Prop)(E:AG->AJ->Prop),tn i s.heap->Q (.ref it) s->AR (model P w) A (HJ (.ref it)) Q E s
@[reducible]noncomputable def TI:=St->Hp->(It->Hp->Prop)->Prop
abbrev PIE(X:Cx)(pins:List (AH×Obj))(σ:St)(tg:AS)(R:It->Hp->Prop)(itv:AG)(s2:AJ):Prop:=
 ∃(it:AH)(fp:List AH)(tn:Nat->BI->Prop)(J:It)(H':Hp),itv=.ref it/\Inv X pins σ H' s2/\Turn X.prog X.w X.K tg J fp it tn/\tn 0 s2.heap/\(∀b∈fp,D6 X pins H' b)/\R J H'
abbrev PI(X:Cx)(tg iter:AS)(wi:TI):Prop:=
 ∀(pins:List (AH×Obj))(s:AJ)(σ:St)(H:Hp)(R:It->Hp->Prop),Inv X pins σ H s->wi σ H R ->
  AR (model X.prog X.w) X.A (eval iter X.env) (λv s1=>AR (model X.prog X.w) X.A (HJ v) (PIE X pins σ tg R) X.xe s1) X.xe s
def ad4{M:Model}{A:BW}{E:AG->AJ->Prop}{b:AH}{o:Obj}{n:String}{vs:Array AG}{Q:Unit->AJ->Prop}(c:s.heap.get? b=AA o)(f:o.cls=.type n)(e:o.data=.fields vs)
  (d:["enumerate","zip","dict_itemiterator","dict_reverseitemiterator","odict_iterator","itertools.zip_longest","itertools.pairwise"].contains n=AF) (a:Q () s):AR M A (FQ tg (.ref b) u) Q E s:=by
 cases tg<;>first
  |exact AL a
  | (cases u <;> first
    |exact AL a
    | (refine AB (wpAny_load c ?_)
       rw[f,e];show AR M A (if(["enumerate","zip","dict_itemiterator","dict_reverseitemiterator","odict_iterator","itertools.zip_longest","itertools.pairwise"].contains n&&vs[0]?==AA (Ch _))=AC then _ else _) Q E s;rw[if_neg (by intro h;rw[d,Bool.false_and]at h;cases h)];exact AL a))
abbrev Itl(K:AQ)(a:AH):It:=
 ⟨λi H=>∃xs x,SqL K H a xs/\xs[i]?=AA x,λi H x H'=>H'=H/\∀xs,SqL K H a xs->xs[i]?=AA x,λi H=>∃xs,SqL K H a xs/\xs.length<=i⟩
abbrev Itt(K:AQ)(a:AH):It:=
 ⟨λi H=>∃xs x,SqT K H a xs/\xs[i]?=AA x,λi H x H'=>H'=H/\∀xs,SqT K H a xs->xs[i]?=AA x,λi H=>∃xs,SqT K H a xs/\xs.length<=i⟩
abbrev Itr(lo:Int)(n:Nat):It:=⟨λi _=>i<n,λi H x H'=>H'=H/\x=.int (lo+i),λi _=>n<=i⟩
def b10{w:Ay}{K:AQ}(a j:AH):Turn P w K tg (Itl K a) [j] j (λi h=>h.IsListIter j a i) where
 mem:=by simp
 obj:=λi h f b hb=>by
  have e:b=j:=by simpa using hb
  subst e;obtain⟨o,e,c,d⟩:=f;exact⟨o,e,λv z=>by rw[d]at z;cases z⟩
 keep:=λi h h' f k=>f.at λo e=>k j ∎ o e
 item:=by
  intro X y t A L i g s J H E I m f v;subst y t A;obtain⟨M,x,l,r⟩:=v;obtain⟨q,n,p,O⟩:=I.list l;obtain⟨u,Q,N⟩:=n.get r;obtain⟨G,F,R,D,C,B⟩:=m j ∎;refine wpAny_pyNext_list_item f p.isList (x:=u) (by simpa using Q) λh' st' sb=>?_;have S:Inv X g J H {s with heap:=h'}:=I.turned (t':=s.toks) (λb o hb e=>(sb.2 b hb).trans e) G F D C B;obtain⟨o,e,c,d⟩:=id st';exact⟨u,rfl,ad4 (s:={s with heap:=h'}) e c d ∅ ⟨x,H,S,N,⟨rfl,λys hy=>by rw[I.list_inj hy l];exact r⟩,st',λb hb=>(m b hb).1⟩⟩
 done:=by
  intro X y t A L i g s J H E I m f v;subst y t A;obtain⟨M,l,r⟩:=v;obtain⟨q,n,p,O⟩:=I.list l;obtain⟨G,F,R,D,C,B⟩:=m j ∎;have T:=n.length;exact wpAny_pyNext_list_end (I.ok.hd L) f p.isList (by simp;lia) λh' eb=>⟨rfl,I.turned (t':=s.toks) (λb o hb e=>eb b o hb e) G F D C B⟩
 self:=λ_ _ _ _ _ f h=>wpAny_pyIter_listiter f h
def bv0{w:Ay}{K:AQ}(a l:AH):Turn P w K tg (Itt K a) [l] l (λi h=>h.IsTupleIter l a i) where
 mem:=by simp
 obj:=λi h f b hb=>by
  have e:b=l:=by simpa using hb
  subst e;obtain⟨o,e,c,d⟩:=f;exact⟨o,e,λv z=>by rw[d]at z;cases z⟩
 keep:=λi h h' f k=>f.at λo e=>k l ∎ o e
 item:=by
  intro X y t A L i g s J H E I n f v;subst y t A;obtain⟨M,x,m,r⟩:=v;obtain⟨j,q,p,O⟩:=I.tuple m;obtain⟨u,Q,N⟩:=q.get r;obtain⟨G,F,R,D,C,B⟩:=n l ∎;refine wpAny_pyNext_tuple_item f (show s.heap.IsTuple a j.toArray from p) (x:=u) (by simpa using Q) λh' st' sb=>?_;have S:Inv X g J H {s with heap:=h'}:=I.turned (t':=s.toks) (λb o hb e=>(sb.2 b hb).trans e) G F D C B;obtain⟨o,e,c,d⟩:=id st';exact⟨u,rfl,ad4 (s:={s with heap:=h'}) e c d ∅ ⟨x,H,S,N,⟨rfl,λys hy=>by rw[I.tuple_inj hy m];exact r⟩,st',λb hb=>(n b hb).1⟩⟩
 done:=by
  intro X y t A L i g s J H E I n f v;subst y t A;obtain⟨M,m,r⟩:=v;obtain⟨j,q,p,O⟩:=I.tuple m;obtain⟨G,F,R,D,C,B⟩:=n l ∎;have T:=q.length;exact wpAny_pyNext_tuple_end (I.ok.hd L) f (show s.heap.IsTuple a j.toArray from p) (by simp;lia) λh' eb=>⟨rfl,I.turned (t':=s.toks) (λb o hb e=>eb b o hb e) G F D C B⟩
 self:=λ_ _ _ _ _ f h=>wpAny_pyIter_tupleiter f h
def bt6{w:Ay}{K:AQ}(d:AH)(lo:Int)(n:Nat):Turn P w K tg (Itr lo n) [d] d (λi h=>IsRangeIter h d (lo+(i:Nat)*1) ((n:Int)-(i:Nat)) 1) where
 mem:=by simp
 obj:=λi h a b hb=>by
  have e:b=d:=by simpa using hb
  subst e;exact⟨_,a,λv z=>by
   have B:Data.fields _=Data.cell v:=z;cases B⟩
 keep:=λi h h' a k=>k d ∎ _ a
 item:=by
  intro X y x A j i c s u H E I f a g;subst y x A;obtain⟨r,q,C,p,m,l⟩:=f d ∎;have W:=Walks.range (prog:=X.prog) (w:=X.w) (I.ok.hd j) d lo 1 n;refine W.item i s _ _ g a λv h' tk hv st' kk=>?_;obtain⟨t,rfl⟩:=hv;have D:Inv X c u H {s with heap:=h',toks:=tk}:=I.turned (λb o hb e=>kk b o (by simpa using hb) e) r q p m l;refine⟨_,rfl,ad4 (s:={s with heap:=h',toks:=tk}) (n:="range_iterator") st' rfl rfl ∅ ⟨.int (lo+i),H,D,⟨t,?_⟩,⟨rfl,rfl⟩,st',λb hb=>(f b hb).1⟩⟩;rw[Int.mul_one]
 done:=by
  intro X y x A j i c s u H E I f a g;obtain⟨r,q,C,p,m,l⟩:=f d ∎;exact wpAny_pyNext_range_end (I.ok.hd j) a (by have:n<=i:=g;lia) λh' eb=>⟨rfl,I.turned (t':=s.toks) (λb o hb e=>eb b o hb e) r q p m l⟩
 self:=λ_ _ _ _ _ a h=>wpAny_pyIter_rangeiter a h
end L2
namespace L2
open PySem PySem.Spec PyProof.Rows
variable{pins:List (AH×Obj)}{σ:St}{H:Hp}{s:AJ}{fp:List AH}
section
variable {X:Cx} {tg:AS}
def a95{R}{E}{lo hi}{t u v}{tk}(I:Inv X pins σ H s)(g:-(2^62)<=lo)(f:lo<2^62)(d:-(2^62)<=hi)(c:hi<2^62)
  (q:R (Itr lo (hi-lo).toNat) H):AR (model X.prog X.w) X.A (HJ (.ref s.heap.objs.size)) (PIE X pins σ tg R) E {s with heap:=s.heap.push {cls:=.type "range",data:=.fields #[.int lo t,.int hi u,.int 1 v]},toks:=tk}:=by
 refine wpAny_pyIter_range (IsRange.new ..) (small_one g f d c) ?_;have a:Inv X pins σ H {s with heap:=s.heap.push {cls:=.type "range",data:=.fields #[.int lo t,.int hi u,.int 1 v]},toks:=tk}:=I.kept λb o=>AN _;refine⟨(s.heap.push {cls:=.type "range",data:=.fields #[.int lo t,.int hi u,.int 1 v]}).objs.size,[(s.heap.push {cls:=.type "range",data:=.fields #[.int lo t,.int hi u,.int 1 v]}).objs.size],_,_,H,rfl,
  a.kept λb o=>AN _,bt6 _ lo (hi-lo).toNat,?_,λb hb=>?_,q⟩
 ·have i:lo+((0:Nat))*1=lo:=by simp
  have h:((hi-lo).toNat:Nat)-((0:Nat))=KZ lo hi 1:=by rw[rangeSize_one];split<;>lia
  rw[i,h];exact Ai _ rfl
 ·have e:b=(s.heap.push {cls:=.type "range",data:=.fields #[.int lo t,.int hi u,.int 1 v]}).objs.size:=by simpa using hb
  subst e;exact a.fpOk (Ab _) (a.hok.fresh (Ab _))
abbrev c09(ta:TA):TI:=λσ H R=>ta σ H λvs H1=>∃j:Int,vs=[.int j]/\-(2^62)<=j/\j<2^62/\R (Itr 0 j.toNat) H1
abbrev da6(ta:TA):TI:=λσ H R=>ta σ H λvs H1=>∃i j:Int,vs=[.int i,.int j]/\(-(2^62)<=i/\i<2^62/\-(2^62)<=j/\j<2^62)/\R (Itr i (j-i).toNat) H1
def bw6{a:AS}{f:TA}{p b:Pos}(u:Gl X "range")(o:X.mg "range"=AD)(v:PA X [a] f)(n:An [a] X.env=[(AF,eval a X.env)]:=by rfl):PI X tg (.Call (.Name "range" p) [a] [] b) (c09 f):=by
 intro c s i H R I h;refine IA (J7 I u o boot_range (Az (thn (v b c s i H _ I h) λus s1 z14=>?_) n rfl));obtain⟨x,y,w,l,d⟩:=z14;obtain⟨j,e,d,m,q⟩:=d;subst e;cases l with
 |cons r k=>
  cases k;obtain⟨t,rfl⟩:=r;exact call_range_1 (a95 w ⋯ ⋯ d m (by simpa using q))
def bx3{a b:AS}{m:TA}{p c:Pos}(A:Gl X "range")(z:X.mg "range"=AD)(B:PA X [a,b] m)(y:An [a,b] X.env=[(AF,eval a X.env),(AF,eval b X.env)]:=by rfl)(f:An [b] X.env=[(AF,eval b X.env)]:=by rfl):
  PI X tg (.Call (.Name "range" p) [a,b] [] c) (da6 m):=by
 intro d s n H R I h;refine IA (J7 I A z boot_range (Az (thn (B c d s n H _ I h) λus s1 z15=>?_) (by rw[y,f]) (by rw[f];rfl)));obtain⟨D,F,C,o,l⟩:=z15;obtain⟨i,j,e,⟨l,x,w,v⟩,q⟩:=l;subst e;cases o with
 |cons r k=>
  cases k with
  |cons u k=>
   cases k;obtain⟨t,rfl⟩:=r;obtain⟨E,rfl⟩:=u;exact call_range_2 (a95 C l x w v q)
abbrev dg6(wi:TI)(g:TG)(tb:TS):TS:=λD σ H=>wi σ H λJ H1=>∃W:Nat->Nat->St->Hp->Prop,(∃m,W 0 m σ H1)/\∀i m σ H,W i m σ H ->
 (J.stop i H/\D.nx σ H)\/(J.go i H/\∃N:St->Hp->Prop,(∀σ' H',N σ' H'->∃m',m'<m/\W (i+1) m' σ' H')/\∀x H',J.yld i H x H'->g x σ H' λσ2 H2=>tb {D with nx:=N,ct:=N,bk:=D.nx} σ2 H2)
abbrev ac0(fp:List AH)(h:BI):List (AH×Obj):=fp.filterMap λb=>(h.get? b).map λo=>(b,o)
def af0{h}{b}{o}(a:b∈fp)(e:h.get? b=AA o):(b,o)∈ac0 fp h:=IZ.mpr ⟨b,a,by rw[e];rfl⟩
def by0{h}{p}(a:p∈ac0 fp h):p.1∈fp/\h.get? p.1=AA p.2:=by
 obtain⟨b,c,e⟩:=IZ.mp a;cases q:h.get? b with
 |none=>simp_all
 |some o=>
  rw[q]at e;have d:=BA e;subst d;exact⟨c,q⟩
def Inv.pinned(I:Inv X pins σ H s)(f:∀b∈fp,D6 X pins H b)(c:∀b∈fp,∃o,s.heap.get? b=AA o/\∀v,o.data≠.cell v):=
 I.pins_of λp hp=>(Ap.mp hp).elim (λz=>I.pin p (BQ _ z)) λz=>by
  obtain⟨a,e⟩:=by0 z;obtain⟨j,i,h,_⟩:=f p.1 a;obtain⟨o,g,d⟩:=c p.1 a;rw[e]at g;simp_all
def Inv.unpinned{pl}(I:Inv X (pins++pl) σ H s):=I.pins_of λp hp=>I.pin p (BQ _ (EQ _ hp))
def cr2{l:AS}{B:List Bf}{V:TI}{g:TG}{Z:TS}{Q:Pos}(L:HI (model X.prog X.w) X.A X.env X.xe)(hc:X.calm=AC)(hi:PI X tg l V)(hg:PG X tg g)(p:PSs X B Z)
  (hs:∀x,Dn l X.env x=pure x:=by intro _;rfl):PS X (.For tg l B [] Q) (dg6 V g Z):=by
 intro c s U H D I h;refine wpAny_For (thn (hi c s U H _ I h) λv s1 h1=>thn h1 λitv s2 h2=>?_) hs;obtain⟨it,M,Y,J,H2,e,I2,T,P,f2,W,⟨m0,w0⟩,E⟩:=h2;subst e;have k:∀{y:Hp},(∀b∈M,y b=AD)->∀b∈M,D6 X c y b:=λhn b p=>⟨hn b p,(f2 b p).2⟩;refine codeAny_forLoop_any (λn s'=>∃i j y,Inv X c j y s'/\Y i s'.heap/\(∀b∈M,y b=AD)/\W i n j y) ?_ m0 ⟨0,U,H2,I2,P,λb p=>(f2 b p).1,w0⟩;rintro n s3 ⟨i,σ3,H3,I3,st3,fr3,w3⟩
 rcases E i n σ3 H3 w3 with⟨F,qn⟩|⟨go,N,hN,G⟩
 ·refine Cu L (thn (T.done X rfl rfl rfl hc i c s3 σ3 H3 X.xe I3 (k fr3) st3 F) λr s4⟨hr,I4⟩=>?_);subst hr;exact Hi ⟨σ3,H3,I4,qn⟩
 ·refine Cu L (thn (T.item X rfl rfl rfl hc i c s3 σ3 H3 X.xe I3 (k fr3) st3 go) λr s4⟨u,hr,h4⟩=>?_);subst hr;refine Cu L (thn h4 λ_ s5 z16=>?_);obtain⟨x,H5,I5,r5,y5,C,R⟩:=z16;have S:=I5.pinned (k R) (T.obj _ _ C);refine Cu L (thn (hg _ s5 σ3 H5 x u _ S r5 (G x H5 y5)) λ_ s6 z17=>?_);obtain⟨O,H6,I6,q6⟩:=z17;refine Cu L (thn (p _ s6 O H6 _ I6 q6) λf s7 z=>?_);have q:∀{a:St}{t:Hp},Inv X (c++ac0 M s5.heap) a t s7->N a t->∃m,m<n/\∃i j y,Inv X c j y s7/\Y i s7.heap/\(∀b∈M,y b=AD)/\W i m j y:=λ{a t}r K=>by
   obtain⟨m',hm,w7⟩:=hN a t K;refine⟨m',hm,i+1,a,t,r.unpinned,T.keep _ _ _ C λb p o e=>(r.pin (b,o) (BQ _ (BQ _ (af0 p e)))).1,λb p=>?_,w7⟩;obtain⟨o,e,d⟩:=T.obj _ _ C b p;exact(r.pin (b,o) (BQ _ (BQ _ (af0 p e)))).2.1
  cases f with
  |next=>obtain⟨a,t,r,K⟩:=z;exact q r K
  |cont=>obtain⟨a,t,r,K⟩:=z;exact q r K
  |brk=>obtain⟨a,t,r,z⟩:=z;exact⟨a,t,r.unpinned,z⟩
  |ret v=>obtain⟨x7,a,t,r,r7,z⟩:=z;exact⟨x7,a,t,r.unpinned,r7,z⟩
end
end L2
namespace L2
open PySem PySem.Spec PyProof.Rows
variable{op:Dw}
@[reducible]noncomputable def R2:=V->V->Hp->VK->Prop
variable{r:R2}
abbrev OpR(X:Cx)(f:AG->AG->Sem AG)(r:R2):Prop:=
 ∀(pins:List (AH×Obj))(s:AJ)(σ:St)(H:Hp)(x y:V)(v u:AG)(Q:VK),Inv X pins σ H s->i8 x v->i8 y u->r x y H Q ->
  AR (model X.prog X.w) X.A (f v u) (EP X pins σ Q) X.xe s
abbrev UnR(X:Cx)(f:AG->Sem AG)(r:V->Hp->VK->Prop):Prop:=
 ∀(pins:List (AH×Obj))(s:AJ)(σ:St)(H:Hp)(x:V)(v:AG)(Q:VK),Inv X pins σ H s->i8 x v->r x H Q ->
  AR (model X.prog X.w) X.A (f v) (EP X pins σ Q) X.xe s
abbrev M5(X:Cx)(f:AG)(r:List V->Hp->VK->Prop):Prop:=
 ∀(pins:List (AH×Obj))(s:AJ)(σ:St)(H:Hp)(xs:List V)(us:List AG)(Q:VK),Inv X pins σ H s->i6 xs us->r xs H Q ->
  AR (model X.prog X.w) X.A (call f us) (EP X pins σ Q) X.xe s
abbrev tOp(r:R2)(ta tb:TE):TE:=λσ H Q=>ta σ H λx H1=>tb σ H1 λy H2=>r x y H2 Q
abbrev tUn(r:V->Hp->VK->Prop)(ta:TE):TE:=λσ H Q=>ta σ H λx H1=>r x H1 Q
abbrev rI(C:Int->Int->Prop)(g:Int->Int->V):R2:=λx y H Q=>∃i j,x=.int i/\y=.int j/\C i j/\Q (g i j) H
abbrev rI0(g:Int->Int->V):R2:=λx y H Q=>∃i j,x=.int i/\y=.int j/\Q (g i j) H
abbrev rU(g:Int->V):V->Hp->VK->Prop:=λx H Q=>∃i,x=.int i/\Q (g i) H
section
variable {X:Cx} {a b c:AS} {ta tb tc:TE} {pos:Pos}
def ay6(o:PE X a ta)(n:PE X b tb){pins}{s}{c:St}{H}{R:V->V->Hp->Prop}(I:Inv X pins c H s)
  (h:ta c H λx g=>tb c g λy d=>R x y d) {Q} {f:AG->AG->Sem AG}
  (m:∀v u e x y d,Inv X pins c d e->i8 x v->i8 y u->R x y d->AR (model X.prog X.w) X.A (f v u) Q X.xe e) :
  AR (model X.prog X.w) X.A (eval a X.env) (λv s₁=>AR (model X.prog X.w) X.A (eval b X.env) (λu s₂=>AR (model X.prog X.w) X.A (f v u) Q X.xe s₂) X.xe s₁) X.xe s:=by
 refine thn (o pins s c H _ I h) λv s1 z18=>?_;obtain⟨x,g,q,j,l⟩:=z18;refine thn (n pins s1 c g _ q l) λu e z19=>?_;obtain⟨y,d,p,i,k⟩:=z19;exact m v u e x y d p j i k
def U0{op:Ey}(e:OpR X (Do op) r)(g:PE X a ta)(f:PE X b tb):PE X (.BinOp a op b pos) (tOp r ta tb):=by
 intro c s d H Q I h;exact wpAny_BinOp (ay6 g f I h λv u s2 x y H2 I2 rx ry q=>e c s2 d H2 x y v u Q I2 rx ry q)
def c98{op:UnaryOp}{r:V->Hp->VK->Prop}(d:UnR X (unaryOp op) r)(e:PE X a ta):PE X (.UnaryOp op a pos) (tUn r ta):=by
 intro b s c H Q I h;exact UnaryOp_ (thn (e b s c H _ I h) λv s1⟨x,H1,I1,r1,q1⟩=>d b s1 c H1 x v Q I1 r1 q1)
def opI{f}{C}{g:Int->Int->Int}
  (a:∀i j(t u)s(Q)E,C i j->Q (.int (g i j) s.toks) {s with toks:=s.toks+1}->AR (model X.prog X.w) X.A (f (.int i t) (.int j u)) Q E s) :
  OpR X f (rI C λi j=>.int (g i j)):=by
 intro b s l H x y v u Q I e d h;obtain⟨i,j,rfl,rfl,k,q⟩:=h;obtain⟨t,rfl⟩:=e;obtain⟨c,rfl⟩:=d;exact a i j t c s _ _ k ⟨.int (g i j),H,I.tok _,⟨_,rfl⟩,q⟩
def bo1{f}{g:Int->Int->Int}
  (a:∀i j(t u)s(Q)E,Q (.int (g i j) s.toks) {s with toks:=s.toks+1}->AR (model X.prog X.w) X.A (f (.int i t) (.int j u)) Q E s) :
  OpR X f (rI0 λi j=>.int (g i j)):=by
 intro b s k H x y v u Q I e d h;obtain⟨i,j,rfl,rfl,q⟩:=h;obtain⟨t,rfl⟩:=e;obtain⟨c,rfl⟩:=d;exact a i j t c s _ _ ⟨.int (g i j),H,I.tok _,⟨_,rfl⟩,q⟩
def aj4{f}{g:Int->Int->Bool}
  (a:∀i j(t u)s(Q)E,Q (.bool (g i j)) s->AR (model X.prog X.w) X.A (f (.int i t) (.int j u)) Q E s) :
  OpR X f (rI0 λi j=>.bl (g i j)):=by
 intro b s k H x y v u Q I e d h;obtain⟨i,j,rfl,rfl,q⟩:=h;obtain⟨t,rfl⟩:=e;obtain⟨c,rfl⟩:=d;exact a i j t c s _ _ ⟨.bl (g i j),H,I,rfl,q⟩
abbrev ax2(i j:Int):Prop:=0<=j/\j<=1000000/\i.natAbs<2^64
abbrev aw8(i j:Int):Prop:=(-(2^64)<i/\i<2^64)\/(-(2^64)<j/\j<2^64)
def aw8.ok{i j}(h:aw8 i j):LD i j:=by
 rcases h with⟨b,a⟩|⟨b,a⟩
 ·exact .of_left (intBits_le_64 b a)
 ·exact .of_right (intBits_le_64 b a)
def cy3:OpR X (Do .Add) (rI0 λi j=>.int (i+j)):=bo1 λ_ _ _ _ _ _ _=>add_int
def cu2:OpR X (Do .Sub) (rI0 λi j=>.int (i-j)):=bo1 λ_ _ _ _ _ _ _=>sub_int
def cs6:OpR X (Do .Mod) (rI (λ_ j=>0<j) λi j=>.int (i % j)):=opI λi j _ _ _ _ _ hc q=>by
 exact mod_int' ⋯ (by rw[Int.fmod_eq_emod_of_nonneg i ⋯];exact q)
def cp4:OpR X (Do .Pow) (rI ax2 λi j=>.int (i^j.toNat)):=opI λ_ _ _ _ _ _ _ hc=>pow_int_small hc.1 hc.2.1 hc.2.2
def unI{f}{g:Int->Int}
  (a:∀i(t)s(Q)E,Q (.int (g i) s.toks) {s with toks:=s.toks+1}->AR (model X.prog X.w) X.A (f (.int i t)) Q E s) :
  UnR X f (rU λi=>.int (g i)):=by
 intro b s d H x v Q I c h;obtain⟨i,rfl,q⟩:=h;obtain⟨t,rfl⟩:=c;exact a i t s _ _ ⟨.int (g i),H,I.tok _,⟨_,rfl⟩,q⟩
def cl7:UnR X (unaryOp .USub) (rU λi=>.int (-i)):=unI λ_ _ _ _ _=>neg_int
end
section
variable {X:Cx} {a b c:AS} {ta tb tc:TE} {pos:Pos}
def c26:OpR X (By .Lt) (rI0 λi j=>.bl (AE (i<j))):=aj4 λ_ _ _ _ _ _ _=>lt_int
def c30:OpR X (By .LtE) (rI0 λi j=>.bl (AE (i<=j))):=aj4 λ_ _ _ _ _ _ _=>le_int
def db2:OpR X (By .Gt) (rI0 λi j=>.bl (AE (j<i))):=aj4 λ_ _ _ _ _ _ _=>gt_int
def c89:OpR X (By .GtE) (rI0 λi j=>.bl (AE (j<=i))):=aj4 λ_ _ _ _ _ _ _=>ge_int
def OpR.or{f:AG->AG->Sem AG}{e:R2}(h:OpR X f r)(h':OpR X f e):OpR X f (λx y H Q=>r x y H Q\/e x y H Q):=by
 intro a s b H x y v u Q I d c q
 rcases q with q|q
 ·exact h a s b H x y v u Q I d c q
 ·exact h' a s b H x y v u Q I d c q
def dj0(b:AS)(h:op≠.In:=by decide)(a:op≠.NotIn:=by decide):Cd op b=AF:=by
 have d:(op==CmpOp.In)=AF:=by cases op<;>first|rfl|exact absurd rfl h
 have c:(op==Hz)=AF:=by cases op<;>first|rfl|exact absurd rfl a
 cases b<;>simp[Cd,d,c]
def ag5(e:OpR X (By op) r)(i:PE X a ta)(g:PE X b tb)(f:Cd op b=AF):PE X (.Compare a [op] [b] pos) (tOp r ta tb):=by
 intro c s d H Q I h;exact LC (ay6 i g I h λv u s2 x y H2 I2 rx ry q=>e c s2 d H2 x y v u Q I2 rx ry q) f
abbrev c86(t:TE):TT:=λσ H Q=>t σ H λx H'=>∃k,x=.bl k/\Q k H'
def ah3(f:OpR X (By op) r)(j:PE X a ta)(i:PE X b tb)(g:Cd op b=AF):PT X (.Compare a [op] [b] pos) (c86 (tOp r ta tb)):=by
 intro c s d H Q I h;refine JC (thn (j c s d H _ I h) λv s1⟨x,H1,I1,r1,q1⟩=>thn (i c s1 d H1 _ I1 q1) λu s2⟨y,H2,I2,r2,q2⟩=>
  thn (f c s2 d H2 x y v u _ I2 r1 r2 q2) λc s3⟨z,H3,I3,r3,k,e,q3⟩=>?_) g
 subst e;cases r3;exact DC ⟨H3,I3,q3⟩
def ab8:(sizeLine:Nat)<2^63:=by rw[Fp];decide
def ac9{x}{us}(r:i6 [x] us):∃u,us=[u]/\i8 x u:=by
 cases r with
 |cons c b=>cases b;exact⟨_,rfl,c⟩
def bn7{x y}{us}(r:i6 [x,y] us):∃u b,us=[u,b]/\i8 x u/\i8 y b:=by
 cases r with
 |cons f e=>
  cases e with
  |cons d c=>cases c;exact⟨_,_,rfl,f,d⟩
def bx9(d:X.calm=AC):M5 X (.builtin "max") (λxs H Q=>∃i j,xs=[.int i,.int j]/\Q (.int (if j>i then j else i)) H):=by
 intro b s e H xs g Q I r h;obtain⟨i,j,rfl,q⟩:=h;obtain⟨u,f,rfl,⟨t,rfl⟩,⟨l,rfl⟩⟩:=bn7 r;refine max_two_ints (I.ok.hd d) λh' tk k=>⟨_,H,I.kept k,?_,q⟩
 by_cases a:j>i
 ·rw[if_pos a,if_pos a];exact⟨_,rfl⟩
 ·rw[if_neg a,if_neg a];exact⟨_,rfl⟩
def bx5(d:X.calm=AC):M5 X (.builtin "min") (λxs H Q=>∃i j,xs=[.int i,.int j]/\Q (.int (if j<i then j else i)) H):=by
 intro b s e H xs g Q I r h;obtain⟨i,j,rfl,q⟩:=h;obtain⟨u,f,rfl,⟨t,rfl⟩,⟨l,rfl⟩⟩:=bn7 r;refine min_two_ints (I.ok.hd d) λh' tk k=>⟨_,H,I.kept k,?_,q⟩
 by_cases a:j<i
 ·rw[if_pos a,if_pos a];exact⟨_,rfl⟩
 ·rw[if_neg a,if_neg a];exact⟨_,rfl⟩
def by4:M5 X (.type "int") λxs H Q=>(∃i,xs=[.int i]/\Q (.int i) H)\/∃k,xs=[.bl k]/\Q (.int (if k then 1 else 0)) H:=by
 intro b s d H xs e Q I r h
 rcases h with⟨i,rfl,q⟩|⟨k,rfl,q⟩
 ·obtain⟨u,rfl,t,rfl⟩:=ac9 r;exact call_int_int ⟨.int i,H,I,⟨_,rfl⟩,q⟩
 ·obtain⟨u,rfl,c⟩:=ac9 r;cases c;exact call_int_bool ⟨.int (if k then 1 else 0),H,I.tok _,⟨_,rfl⟩,q⟩
end
end L2
namespace L2
open PySem PySem.Spec PyProof.Rows
variable{h:BI}{dx C:AH}{mA:Str->Option AG}{s:AJ}{f:Str}{v:V}{Q:AG->AJ->Prop}
structure ObjM(h:BI)(x dx C:AH)(mA:Str->Option AG):Prop where
 obj:h.get? x=AA (ES C dx)
 ns:h.Ns1 dx mA
 ne:dx≠x
def bz9(n:h.Ns1 dx mA):∃d,h.get? dx=AA d/\∀name,Ii name d=AA (mA name):=by
 obtain⟨o,f,p,i,l,k,_,j⟩:=n;refine⟨o,i,λname=>?_⟩;have e:=j name;unfold nsFind findBy at e;rw[<-Array.find?_toList]at e;unfold Ii;rw[l];dsimp only
 split
 ·simp_all
 ·rename_i q;rw[q]at e;have a:f.toList.any (·.refKey)=AF:=by
   rw[FI];intro y g;obtain⟨z,t,c⟩:=k y (Array.mem_toList_iff.mp g);simp[DictEntry.refKey,c]
  have m:¬f.toList.any (·.refKey)=AC:=a▸AI
  rw[if_neg m];exact congrArg AA e
def ObjM.look{x}(I:ObjM h x dx C mA):∃b,W.InstAt h x (ES C dx) C (AA b)/\∀a,Ii a b=AA (mA a):=
 let⟨b,c,d⟩:=bz9 I.ns
 ⟨b,⟨I.obj,rfl,rfl,c⟩,d⟩
section
variable {prog:Al} {w:Ay} {A:BW} {E:AG->AJ->Prop} {K:AQ} {x f:AH} {name:Str} {v:AG}
def cj6{expr}(X:K.In s.heap)(I:ObjM s.heap x dx C mA)(e:GL K C name=AC)(d:HG K C=AC)
  (f:Bg K (.ref C) name=AA AD) (b:mA name=AA v) (a:W.handedIn v=AC) (h:Q v {s with toks:=s.toks+1}) :
  AR (model prog w) A (getAttr (.ref x) name expr) Q E s:=by
 obtain⟨g,J,c⟩:=I.look;exact W.get_value X J (IB e).1 (W.findObj_own d f rfl (by rw[c,b])) a h
def b65{pl}{Q}(X:K.In s.heap)(I:ObjM s.heap x dx C mA)(a:GL K C name=AC)
  (g:Bg K (.ref C) name=AA (AA (.ref f))) (d:JL K (.ref f)=AC) (c:mA name=AD) (h:Q (.ref f,[.ref x]) s) :
  AR (model prog w) A (Ka (.ref x) name pl) Q E s:=by
 obtain⟨b,J,e⟩:=I.look;exact W.method_fn X J (IB a).1 (IB a).2 g (beq_iff_eq.mp d) (by show(Ii name b).map (·.isSome)=AA AF;rw[e,c];rfl) h
def ce5{ns}{Q}(X:K.In s.heap)(I:ObjM s.heap x dx C mA)
  (j:Bg K (.ref C) "__setattr__"=AA (AA (.builtin "object.__setattr__"))) (k:Ij K C=AC) (i:Jm K C name=AA AD) (l:HG K C=AC)
  (g:PySem.Within mA ns) (hsz:ns.length<=sizeLine)
  (h:∀e,ObjM e x dx C (λy=>if y=name then AA v else mA y)->Bc dx s.heap e->Q () {s with heap:=e,toks:=s.toks+2}) :
  AR (model prog w) A (setAttr (.ref x) name v) Q E s:=by
 obtain⟨p,J,r⟩:=I.look;refine W.set_plain X J j (W.osa_open X J k i λb=>?_);obtain⟨t,m,c⟩:=W.any_some l;have f:=I.obj;refine AB (AL (AB (AB (wpAny_loadPart f (AB (W.Looks.here (W.looks_clsIn X m) ?_))))));rw[c];refine AL (AB (AL (AB ?_)));refine wpAny_nsSet1 I.ns λh' hn2 hs2=>?_;obtain⟨q,n,o,a,b,d⟩:=hn2.count (PySem.Within.cons name v g);exact AB (wpAny_lookBehind a (by rw[b];exact pastItsLine_dict (Bd d (by rw[AW];lia))) (AL (h _ ⟨(hs2.2 _ (BE I.ne)).trans I.obj,hn2,I.ne⟩ hs2)))
def b27{R}{vs}{kw}(X:K.In s.heap)(a:IK K C=AC)
  (hi:Bg K (.ref C) "__init__"=AA (AA (.ref f))) (b:W.typeIn K (.ref f)=AA (.type "function"))
  (h:EC (model prog w) (A.under (.builtin "type.__call__" ⟨.ref C::vs,kw⟩)) (.call (.ref f) ⟨.ref (s.heap.objs.size+1)::vs,kw⟩) (W.InitBack (s.heap.objs.size+1) R)
   {s with heap:=(s.heap.push DD).push (ES C s.heap.objs.size)}) :
  EC (model prog w) A (.call (.ref C) ⟨vs,kw⟩) R s:=by
 exact W.make_core (W.makes_of X a) (W.looks_findIn X hi) (λself=>W.bind_fn X self b) (.inl rfl) h
end
abbrev B2(f:Str)(v:V):List (Str×V)->List (Str×V)
 |[]=>[(f,v)]
 |(g,x)::r=>if g=f then(g,v)::r else(g,x)::B2 f v r
theorem az3(f g:Str)(v:V):∀c:List (Str×V),(B2 f v c).lookup g=if g=f then AA v else c.lookup g
 |[]=>by
  show DM g [(f,v)]=_
  by_cases h:g=f
  ·simp_all
  ·simp_all
 |(k,x)::r=>by
  have d:=az3 f g v r;rw[show B2 f v ((k,x)::r)=(if k=f then(k,v)::r else(k,x)::B2 f v r) from rfl]
  by_cases b:k=f
  ·rw[if_pos b]
   by_cases h:g=k
   ·have a:(g==k)=AC:=beq_iff_eq.mpr h;simp only[DM,a,if_pos (h.trans b)]
   ·have a:(g==k)=AF:=beq_eq_false_iff_ne.mpr h;simp only[DM,a,if_neg (λe:g=f=>h (e.trans b.symm))]
  ·rw[if_neg b]
   by_cases h:g=k
   ·simp_all
   ·have a:(g==k)=AF:=beq_eq_false_iff_ne.mpr h;simp only[DM,a];exact d
theorem aq1(f:Str)(v:V):∀a:List (Str×V),f∈(B2 f v a).map (·.1)/\∀g,g∈a.map (·.1)->g∈(B2 f v a).map (·.1)
 |[]=>⟨by simp[B2],λg h=>by simp at h⟩
 |(k,x)::r=>by
  obtain⟨c,b⟩:=aq1 f v r;rw[show B2 f v ((k,x)::r)=(if k=f then(k,v)::r else(k,x)::B2 f v r) from rfl]
  by_cases d:k=f
  ·simp_all
  ·rw[if_neg d];refine⟨?_,λg h=>?_⟩
   ·exact As _ c
   ·rcases AK.mp h with e|e
    ·exact mem_cons.mpr (.inl e)
    ·exact As _ (b g e)
theorem az7 f(v):∀a,(B2 f v a).length<=a.length+1
 |[]=>by simp[B2]
 |(k,x)::r=>by
  have b:=az7 f v r;rw[show B2 f v ((k,x)::r)=if k=f then(k,v)::r else(k,x)::B2 f v r from rfl]
  by_cases c:k=f
  ·simp_all
  ·simp_all
def C5.some_of{o}(r:C5 (AA v) o):∃u,o=AA u/\i8 v u:=by
 cases o with
 |none=>exact((r)).elim
 |some u=>exact⟨u,rfl,r⟩
def C5.none_of{o}(r:C5 AD o):o=AD:=by
 cases o with
 |none=>rfl
 |some u=>exact((r)).elim
def by1{u:AG}(r:i8 v u):W.handedIn u=AC:=by
 cases v with
 |non=>cases(show u=Bz from r);rfl
 |bl b=>cases(show u=Fa b from r);rfl
 |int i=>obtain⟨t,e⟩:=(show ∃t,u=FE i t from r);cases e;rfl
 |str x=>obtain⟨t,e⟩:=(show ∃t,u=FF x t from r);cases e;rfl
 |byt b=>obtain⟨t,e⟩:=(show ∃t,u=Jy b t from r);cases e;rfl
 |flt b=>obtain⟨t,e⟩:=(show ∃t,u=Jz b t from r);cases e;rfl
 |ref a=>cases(show u=BC a from r);rfl
 |ty n=>cases(show u=De n from r);rfl
section
variable {P:Al} {w:Ay} {H H':Hp} {h':BI} {a:AH} {fs fs':List (Str×V)}
def at0(c:HOk P w H h)(e:H a=AA (.ins C dx fs)):∃b,ObjM h a dx C b/\(∀f,C5 (fs.lookup f) (b f))/\PySem.Within b (fs.map (·.1))/\fs.length<=1000/\H dx=AA (.own a):=by
 obtain⟨d,z,i,g,b,n,r,q⟩:=((c a _ e));exact⟨b,⟨g,n,i⟩,r,q,z,d⟩
end
structure Cls(K:AQ)(C:AH):Prop where
 pg:GL K C Str.empty=AC
 hd:HG K C=AC
 po:Ij K C=AC
 sa:Bg K (.ref C) "__setattr__"=AA (AA (.builtin "object.__setattr__"))
def Cls.get{K:AQ}(c:Cls K C)(f:Str):GL K C f=AC:=c.pg
abbrev M4(K:AQ)(C:AH)(f:Str):Prop:=Bg K (.ref C) f=AA AD
def M4.taker{K}(n:M4 K C f):Jm K C f=AA AD:=by
 unfold Jm;rw[n];rfl
structure Meth(K:AQ)(C:AH)(m:Str)(f:AH):Prop where
 at_:Bg K (.ref C) m=AA (AA (.ref f))
 fn:JL K (.ref f)=AC
 kp:CI K (.ref f)=AC
section
variable {X:Cx} {pins:List (AH×Obj)} {σ:St} {H:Hp} {a:AH} {fs:List (Str×V)} {A:BW} {E:AG->AJ->Prop}
def bw3{b}(I:Inv X pins σ H s)(e:H a=AA (.ins C dx fs))(c:Cls X.K C)(n:M4 X.K C f)(l:fs.lookup f=AA v)
  (h:∀u d,Inv X pins σ H d->i8 v u->Q u d):AR (model X.prog X.w) A (getAttr (.ref a) f b) Q E s:=by
 obtain⟨j,O,r,_,_,_⟩:=at0 I.hok e;obtain⟨u,i,g⟩:=C5.some_of (l▸r f);exact cj6 I.kIn O (c.get f) c.hd n i (by1 g) (h u _ (I.tok _) g)
def ap2{m}{g}{pl}{Q}(I:Inv X pins σ H s)(e:H a=AA (.ins C dx fs))(c:Cls X.K C)(k:Meth X.K C m g)(l:fs.lookup m=AD)
  (h:Q (.ref g,[.ref a]) s):AR (model X.prog X.w) A (Ka (.ref a) m pl) Q E s:=by
 obtain⟨d,O,r,_,_,_⟩:=at0 I.hok e;have b:=C5.none_of (l▸r m);exact b65 I.kIn O (c.get m) k.at_ k.fn b h
def bv5{y:V}{u:AG}{Q:Unit->AJ->Prop}(I:Inv X pins σ H s)(e:H a=AA (.ins C dx fs))(c:Cls X.K C)(n:M4 X.K C f)(v:fs.length<1000)(l:i8 y u)
  (h:∀i,Inv X pins σ (upd H a (.ins C dx (B2 f y fs))) i->Q () i):AR (model X.prog X.w) A (setAttr (.ref a) f u) Q E s:=by
 obtain⟨j,O,r,d,_,k⟩:=at0 I.hok e;have m:(fs.map (·.1)).length<=sizeLine:=by rw[AT,Fp];lia
 refine ce5 I.kIn O c.sa c.po n.taker c.hd d m λh' O' sb=>h _ ?_;have p:∃o,h'.get? dx=AA o:=let⟨o,_,_,t,_⟩:=O'.ns;⟨o,t⟩;refine I.write (x:=a) (e:=dx) (by rw[e];exact Dk) (.inr k) (λb q hb z=>(sb.2 b hb).trans z) p ?_;refine⟨by rw[j7 O.ne];exact k,?_,O.ne,O'.obj,_,O'.ns,λg=>?_,λg hg=>?_⟩
 ·have:=az7 f y fs;lia
 ·show C5 ((B2 f y fs).lookup g) (if g=f then AA u else j g);rw[az3]
  by_cases q:g=f
  ·rw[if_pos q,if_pos q];exact l
  ·rw[if_neg q,if_neg q];exact r g
 ·by_cases q:g=f
  ·rw[q];exact(aq1 f y fs).1
  ·refine(aq1 f y fs).2 g (d g λz=>hg ?_);show(if g=f then AA u else j g)=AD;rw[if_neg q];exact z
def Inv.made(I:Inv X pins σ H s):Inv X pins σ (upd (upd H s.heap.objs.size (.own (s.heap.objs.size+1))) (s.heap.objs.size+1) (.ins C s.heap.objs.size []))
  {s with heap:=(s.heap.push DD).push (ES C s.heap.objs.size)}:=by
 have b:(s.heap.push DD).get? s.heap.objs.size=AA DD:=Ai s.heap rfl;have d:=by
  have:=Ai (s.heap.push DD) (o:=ES C s.heap.objs.size) rfl
  rwa [Ci]at this
 have c:(s.heap.push DD).Ns s.heap.objs.size λ_=>AD:=⟨DD,#[],_,b,rfl,λe he=>absurd he ∎,λ_=>rfl⟩;have e:=I.laid (o:=.own (s.heap.objs.size+1)) (t':=s.toks) (λb u=>AN _) (Ab _) ⟨_,b⟩;refine e.laid (λb u=>AN _) (Kb (Ci _ _)) ?_;have a:s.heap.objs.size≠s.heap.objs.size+1:=BR (ET _);refine⟨by rw[j7 a,p8],Bx _,a,d,λ_=>AD,(Heap.Ns1.of_empty c).at λo=>AN _,λ_=>Dk,λy=>absurd rfl⟩
def cd0{prog}{w}{env}{e}{pos}(a:Cy e f env (eval e env)=eval e env)
  (h:AR (model prog w) A (eval e env) (λo s₁=>AR (model prog w) A (getAttr o f AC) Q E s₁) E s):AR (model prog w) A (eval (.Attribute e f pos) env) Q E s:=
 Attribute_any_ h (by rw[arm_eval_Attribute,a])
end
abbrev di1(K:AQ)(ta:TE)(f:Str):TE:=λσ H Q=>ta σ H λx H1=>∃a C dx fs v,x=.ref a/\H1 a=AA (.ins C dx fs)/\Cls K C/\M4 K C f/\fs.lookup f=AA v/\Q v H1
abbrev dg8(K:AQ)(ta tv:TE)(f:Str):TS:=λD σ H=>tv σ H λy H1=>ta σ H1 λx H2=>∃a C dx fs,x=.ref a/\H2 a=AA (.ins C dx fs)/\Cls K C/\M4 K C f/\fs.length<1000 /\
 D.nx σ (upd H2 a (.ins C dx (B2 f y fs)))
section
variable {X:Cx} {o e value:AS} {pos pos' tpos:Pos} {ta tv:TE}
def cr7(i:PE X e ta)(j:Cy e f X.env (eval e X.env)=eval e X.env):PE X (.Attribute e f pos) (di1 X.K ta f):=by
 intro b s d H Q I h;refine cd0 j (thn (i b s d H _ I h) λu s1 z20=>?_);obtain⟨x,p,o,g,a,C,t,r,v,k,m,c,n,l,q⟩:=z20;subst k;obtain rfl:u=BC a:=g;exact bw3 o m c n l λu' s2 I2 ru=>⟨v,p,I2,ru,q⟩
def co9(k:PE X o ta)(i:PE X value tv)(j:Cw value (AA (.Attribute o f pos')) pos.line X.env=pure AF):PS X (.Assign [.Attribute o f pos'] value pos) (dg8 X.K ta tv f):=by
 intro b s d H D I h;refine plainObj_wpAny_Assign_Attribute (thn (i b s d H _ I h) λu s1⟨y,H1,I1,ry,q⟩=>thn (k b s1 d H1 _ I1 q) λov s2 z21=>?_) j;obtain⟨x,v,r,e,a,C,u,t,m,p,c,n,l,g⟩:=z21;subst m;obtain rfl:ov=BC a:=e;exact bv5 r p c n l ry λs3 I3=>⟨d,_,I3,g⟩
end
end L2
namespace L2
open PySem PySem.Spec PyProof.Rows
variable{A:BW}{C:AH}{us:List AG}{X:Cx}{s:AJ}{H:Hp}{pins:List (AH×Obj)}{σ:St}{Q:VK}{ps:List Str}{x:Str}{vs:List V}{kindOf:Str->Option Fq}
structure Room(k:Nat)(A:BW):Prop where
 hd:A.handled=AD
 dp:A.depth+3*k+5<ID
 un:A.units+16*k+200<Bv
theorem Room.deeper{k}(r:Room (k+1) A)(env:Env):Room k (A.deeper env):=
 ⟨r.hd,by have:=r.dp;show A.depth+1+3*k+5<_;lia,by have:=r.un;show A.units+3+16*k+200<_;lia⟩
def bu7{kw}:(A.under (.builtin "type.__call__" ⟨.ref C::us,kw⟩)).depth=A.depth+1:=rfl
def bu0{kw}:(A.under (.builtin "type.__call__" ⟨.ref C::us,kw⟩)).units=A.units+1:=rfl
def Room.make{k:Nat}(r:Room (k+1) A)(C:AH)(us:List AG)(a:List (Str×AG)):Room k (A.under (.builtin "type.__call__" ⟨.ref C::us,a⟩)):=
 ⟨r.hd,by have:=r.dp;rw[bu7];lia,by have:=r.un;rw[bu0];lia⟩
theorem Room.depth{k}(r:Room k A):A.depth<ID:=by have:=r.dp;lia
abbrev bp5:TA:=λ_ H Q=>Q [] H
abbrev c87(ta:TE)(tr:TA):TA:=λσ H Q=>ta σ H λx H1=>tr σ H1 λxs H2=>Q (x::xs) H2
section
variable {e:AS} {es:List AS} {te:TE} {t:TA} {pos:Pos}
def co4:PA X [] bp5:=λ_ _ _ _ H Q I h=>DQ ⟨[],H,I,.nil,h⟩
def ck6(j:PE X e te)(i:PA X es t)(g:An (e::es) X.env=(AF,eval e X.env)::An es X.env:=by rfl):PA X (e::es) (c87 te t):=by
 intro b a s c H Q I h;rw[g];show AR _ _ (spliced ((AF,eval e X.env)::CH b (An es X.env))) _ _ s;refine Cg (thn (j a s c H _ I h) λu s1 z22=>?_);obtain⟨x,l,k,d,f⟩:=z22;exact thn (i b a s1 c l _ k f) λus s2⟨xs,H2,I2,r2,q2⟩=>⟨x::xs,H2,I2,.cons d r2,q2⟩
abbrev df7(t:TA):TE:=λσ H Q=>t σ H λxs H1=>xs.length<=sizeLine/\∀p,H1 p=AD->Q (.ref p) (upd H1 p (.tup xs))
abbrev dg0(t:TA):TE:=λσ H Q=>t σ H λxs H1=>xs.length<=sizeLine/\∀p,H1 p=AD->Q (.ref p) (upd H1 p (.lst xs))
def cn3{x1}(h:PA X es t):PE X (.Tuple es x1 pos) (df7 t):=by
 intro a s b H Q I c;refine wpAny_Tuple_spliced (thn (h pos a s b H _ I c) λus s1⟨xs,H1,I1,r,z,q⟩=>⟨by rw[<-r.length];exact z,?_⟩);have d:=I1.hok.fresh (Ab _);refine⟨.ref s1.heap.objs.size,upd H1 s1.heap.objs.size (.tup xs),I1.laid (t':=s1.toks) (λb u e=>AN _ e) (Ab _) ?_,rfl,q _ d⟩;exact⟨z,us,r,G4.new _ _⟩
def co2(h:PA X es t):PE X (.List es pos) (dg0 t):=by
 intro a s b H Q I c;refine wpAny_List_spliced (thn (h pos a s b H _ I c) λus s1⟨xs,H1,I1,r,z,q⟩=>⟨by rw[<-r.length];exact z,?_⟩);have d:H1 s1.heap.objs.size=AD:=I1.hok.fresh (Ab _);refine⟨.ref s1.heap.objs.size,upd H1 s1.heap.objs.size (.lst xs),I1.laid (t':=s1.toks) (λb u e=>AN _ e) (Ab _) ?_,rfl,q _ d⟩;exact⟨z,us,0,r,Ai _ rfl⟩
end
@[reducible]noncomputable def Sp:=List V->Hp->VK->XK->Prop
@[reducible]noncomputable def CXT:=List Env->Hp->AJ->XK->AG->AJ->Prop
structure Env0(P:Al)(w:Ay)(K:AQ)(mg:Str->Option AG)(base:BI)(A:BW)(outer:List Env)(s:AJ)(H:Hp):Prop where
 frames:A.frames=AA outer
 mod:Mod K mg base
 bs:∀b o,base.get? b=AA o->s.heap.get? b=AA o/\H b=AD
 bsz:base.objs.size<=s.heap.objs.size
 funs:s.heap.FunFrames base outer
 frf:∀b∈frs outer,H b=AD
 hok:HOk P w H s.heap
 bare:Go s.gens
abbrev CE(outer:List Env)(P:Al)(w:Ay)(H:Hp)(s:AJ)(Q:VK)(u:AG)(s':AJ):Prop:=
 ∃v H',s'.os=s.os/\Go s'.gens/\Un (frs outer) [] H H' s.heap s'.heap/\HOk P w H' s'.heap/\i8 v u/\Q v H'
abbrev CR(CX:CXT)(outer:List Env)(P:Al)(w:Ay)(H:Hp)(s:AJ)(Q:VK)(E:XK)(r:IC)(s':AJ):Prop:=
 match r with
 |.ok (.ret u)=>CE outer P w H s Q u s'
 |.ok _=>False
 |.error e=>CX outer H s E e s'
structure FnOk(P:Al)(w:Ay)(K:AQ)(mg:Str->Option AG)(base:BI)(CX:CXT)(k:Nat)(f:AH)(fd:Bt)(ps:List Str)(sp:Sp):Prop where
 len:∀vs H Q E,sp vs H Q E->vs.length=ps.length
 run:∀(A:BW)(outer:List Env)(s:AJ)(H:Hp)(args:Args)(us:List AG)(vs:List V)(Q:VK)(E:XK),Room k A->Env0 P w K mg base A outer s H->Gr s fd args (ps.zip us)->i6 vs us->sp vs H Q E ->
  EC (model P w) A (.call (.ref f) args) (CR CX outer P w H s Q E) s
def Env0.make{P}{w}{K}{mg}{base}{outer}(e:Env0 P w K mg base A outer s H)(C:AH)(us:List AG)(a:List (Str×AG)):
  Env0 P w K mg base (A.under (.builtin "type.__call__" ⟨.ref C::us,a⟩)) outer s H:=⟨by first|exact e.frames|nofun,e.mod,e.bs,e.bsz,e.funs,e.frf,e.hok,e.bare⟩
section
variable {s':AJ}
def Inv.env0(I:Inv X pins σ H s):Env0 X.prog X.w X.K X.mg X.base X.A X.stack s H:=
 ⟨I.ok.frames,I.ok.mod,I.bs,Bd I.ok.bsz I.sz,I.stack,I.stkFree,I.hok,I.bare⟩
def Inv.after{u}(I:Inv X pins σ H s)(h:CE X.stack X.prog X.w H s Q u s'):EP X pins σ Q u s':=by
 obtain⟨v,i,f,a,e,c,r,q⟩:=h;obtain⟨j,g,d,t,b⟩:=s';obtain rfl:b=s.os:=f;exact⟨v,i,I.call e c a λb z=>absurd z ∎,r,q⟩
end
abbrev c67(sp:Sp)(dvs:List V)(E:XK)(t:TA):TE:=λσ H Q=>t σ H λvs H1=>sp (vs++dvs) H1 Q E
abbrev bn5(C:AH)(sp:Sp)(dvs:List V)(E:XK)(t:TA):TE:=λσ H Q=>t σ H λvs H1=>∀x dx,H1 x=AD->H1 dx=AD->dx≠x ->
 sp (.ref x::(vs++dvs)) (upd (upd H1 dx (.own x)) x (.ins C dx [])) (λv H2=>v=.non/\Q (.ref x) H2) E
abbrev y0(K:AQ)(fd:Bt)(ps:List Str)(ds:List AG):Prop:=
 ∀(s:AJ)(us:List AG),K.In s.heap->(us++ds).length=ps.length->Gr s fd ⟨us,[]⟩ (ps.zip (us++ds))
def y0.all{K}{fd}(h:∀a,a.length=ps.length->EG fd ⟨a,[]⟩=pure (ps.zip a)):y0 K fd ps []:=λs a _ hl=>by
 rw[Ao]at hl ⊢;exact .of_eq (h a hl)
abbrev W7(CX:CXT)(X:Cx)(E:XK):Prop:=∀(pins:List (AH×Obj))(σ:St)(H:Hp)(s:AJ)(e:AG)(s':AJ),Inv X pins σ H s->CX X.stack H s E e s'->X.xe e s'
section
variable {CX:CXT} {k:Nat} {f:AH} {fd:Bt} {sp:Sp} {dvs:List V} {ds:List AG} {E:XK} {m:Str} {p pos apos:Pos} {e o:AS} {es:List AS} {ta:TE} {t:TA}
def T1(F:FnOk X.prog X.w X.K X.mg X.base CX k f fd ps sp)(i:Room k X.A)(m:y0 X.K fd ps ds)(l:i6 dvs ds)(g:W7 CX X E)
  (I:Inv X pins σ H s) (r:i6 vs us) (h:sp (vs++dvs) H Q E):AR (model X.prog X.w) X.A (call (.ref f) us) (EP X pins σ Q) X.xe s:=by
 have b:=r.append l;have j:(us++ds).length=ps.length:=(b.length▸F.len _ _ _ _ h)
 refine wpAny_call (Gu (F.run X.A X.stack s H ⟨us,[]⟩ (us++ds) (vs++dvs) Q E i I.env0 (m s us I.kIn j) b h) λr s' hq=>?_);cases r with
 |error e=>exact g pins σ H s e s' I hq
 |ok n=>
  cases n with
  |ret u=>exact I.after hq
  |next=>exact AU hq
  |brk=>exact AU hq
  |cont=>exact AU hq
def cb3(F:FnOk X.prog X.w X.K X.mg X.base CX k f fd ps sp)(i:Room k X.A)(m:Gl X x)(j:X.mg x=AA (.ref f))(l:CI X.K (.ref f)=AC)(u:y0 X.K fd ps ds)(o:i6 dvs ds)(g:W7 CX X E)
  (v:PA X (e::es) t) (c:(x==("__debug__":Str))=AF:=by decide) (n:An (e::es) X.env=(AF,eval e X.env)::An es X.env:=by rfl) (b:(CH pos (An es X.env)).any (·.1)=AF:=by rfl) :
  PE X (.Call (.Name x p) (e::es) [] pos) (c67 sp dvs E t):=by
 intro a s d H Q I h;refine CT (W0 I m j ?_ c);refine ER (h₀:=X.base) I.ok.mod.kin l (thn (v pos a s d H _ I h) λus s1⟨vs,H1,I1,r,q⟩=>⟨I1.kIn,?_⟩) n b;exact T1 F i u o g I1 r q
structure Mk(K:AQ)(C f:AH):Prop where
 makes:IK K C=AC
 init:Bg K (.ref C) "__init__"=AA (AA (.ref f))
 fn:JL K (.ref f)=AC
 kp:CI K (.ref C)=AC
def bc0(M:Mk X.K C f)(F:FnOk X.prog X.w X.K X.mg X.base CX k f fd ps sp)(o:Room (k+1) X.A)(t:y0 X.K fd ps ds)(q:i6 dvs ds)
  (n:W7 CX X E) (I:Inv X pins σ H s) (r:i6 vs us)
  (h:∀x a,H x=AD->H a=AD->a≠x->sp (.ref x::(vs++dvs)) (upd (upd H a (.own x)) x (.ins C a [])) (λv H2=>v=.non/\Q (.ref x) H2) E) :
  AR (model X.prog X.w) X.A (call (.ref C) us) (EP X pins σ Q) X.xe s:=by
 have g:=h (s.heap.objs.size+1) s.heap.objs.size (I.hok.fresh (Ik _)) (I.hok.fresh (Ab _)) (BR (ET _));have b:=Inv.made (C:=C) I;have d:i6 (V.ref (s.heap.objs.size+1)::(vs++dvs)) (BC (s.heap.objs.size+1)::(us++ds)):=.cons rfl (r.append q);have p:=by
  have e:=d.length;rw[F.len _ _ _ _ g]at e;exact e.symm
 refine wpAny_call (b27 I.kIn M.makes M.init (beq_iff_eq.mp M.fn) (Gu (F.run _ X.stack _ _ ⟨BC (s.heap.objs.size+1)::us,[]⟩ (BC (s.heap.objs.size+1)::(us++ds)) _ _ E (o.make C us [])
  (b.env0.make C us []) (t _ (BC (s.heap.objs.size+1)::us) b.kIn p) d g) λr s' hq'=>?_))
 cases r with
 |error e=>exact n pins σ _ _ e s' b hq'
 |ok y=>
  cases y with
  |ret u=>
   obtain⟨v,G,D,j,z,m⟩:=b.after hq';subst z;exact⟨j,⟨V.ref (s.heap.objs.size+1),G,D,rfl,m⟩⟩
  |next=>exact AU hq'
  |brk=>exact AU hq'
  |cont=>exact AU hq'
def ck3(M:Mk X.K C f)(F:FnOk X.prog X.w X.K X.mg X.base CX k f fd ps sp)(i:Room (k+1) X.A)(l:Gl X x)(j:X.mg x=AA (.ref C))(o:y0 X.K fd ps ds)(n:i6 dvs ds)(g:W7 CX X E)
  (u:PA X (e::es) t) (c:(x==("__debug__":Str))=AF:=by decide) (m:An (e::es) X.env=(AF,eval e X.env)::An es X.env:=by rfl) (b:(CH pos (An es X.env)).any (·.1)=AF:=by rfl) :
  PE X (.Call (.Name x p) (e::es) [] pos) (bn5 C sp dvs E t):=by
 intro a s d H Q I h;refine CT (W0 I l j ?_ c);refine ER (h₀:=X.base) I.ok.mod.kin M.kp (thn (u pos a s d H _ I h) λus s1⟨vs,H1,I1,r,q⟩=>⟨I1.kIn,?_⟩) m b;exact bc0 M F i o n g I1 r q
def b34(M:Mk X.K C f)(F:FnOk X.prog X.w X.K X.mg X.base CX k f fd ps sp)(d:Room (k+1) X.A)(g:Gl X x)(e:X.mg x=AA (.ref C))(j:y0 X.K fd ps ds)(i:i6 dvs ds)(c:W7 CX X E)
  (a:(x==("__debug__":Str))=AF:=by decide):PE X (.Call (.Name x p) [] [] pos) (bn5 C sp dvs E bp5):=by
 intro b s l H Q I h;refine CT (W0 I g e ?_ a);exact Kr I.kIn M.kp (bc0 (us:=[]) M F d j i c I .nil h)
end
structure FnScope(N P:List Str)(sc:BS):Prop where
 kind:sc.kind=.function
 co:sc.isCoroutine=AF
 gen:sc.isGenerator=AF
 nd:N.Nodup
 pre:N.take P.length=P
 par:∀x∈P,sc.names.lookup x=AA .local\/sc.names.lookup x=AA .cell
 nofree:∀y∈sc.names,y.2≠.free
theorem a69:∀{a}{m},(∀v,(x,v)∉a)->Ia kindOf a m x=m x
 |[],_,_=>rfl
 |(n,v)::r,m,h=>by
  unfold Ia;rw[a69 λw hw=>h w (As _ hw)]
  split
  ·have:x≠n:=by rintro rfl;exact h v Bw
   simp[this]
  ·rfl
theorem a90:∀{a}{m},(∀v,(x,v)∉a)->Ib kindOf a m x=m x
 |[],_,_=>rfl
 |(n,v)::r,m,h=>by
  unfold Ib;rw[a90 λw hw=>h w (As _ hw)]
  split
  ·rfl
  ·have:x≠n:=by rintro rfl;exact h v Bw
   simp[this]
theorem a79{v:AG}:∀{P:List Str}{a:List AG}{i:Nat}{m:Str->Option AG},P.Nodup->P[i]?=AA x->a[i]?=AA v->kindOf x=AA .local ->
  Ia kindOf (P.zip a) m x=AA v
 |[],_,_,_,_,h,_,_=>by simp at h
 |_::_,[],_,_,_,_,h,_=>by simp at h
 |p::P,w::a,0,m,d,c,b,e=>by
  simp at c b;subst c;subst b;show Ia kindOf ((p,w)::P.zip a) m p=_;unfold Ia;rw[a69 λv hv=>(BU.mp d).1 (Gc hv).1,if_pos e];simp
 |p::P,w::a,i+1,m,d,c,b,e=>by
  unfold Ia;exact a79 (i:=i) (BU.mp d).2 (by simpa using c) (by simpa using b) e
theorem a91{v:AG}:∀{P:List Str}{a:List AG}{i:Nat}{m:Str->Option AG},P.Nodup->P[i]?=AA x->a[i]?=AA v->kindOf x≠AA .local ->
  Ib kindOf (P.zip a) m x=AA v
 |[],_,_,_,_,h,_,_=>by simp at h
 |_::_,[],_,_,_,_,h,_=>by simp at h
 |p::P,w::a,0,m,d,c,b,e=>by
  simp at c b;subst c;subst b;show Ib kindOf ((p,w)::P.zip a) m p=_;unfold Ib;rw[a90 λv hv=>(BU.mp d).1 (Gc hv).1,if_neg e];simp
 |p::P,w::a,i+1,m,d,c,b,e=>by
  unfold Ib;exact a91 (i:=i) (BU.mp d).2 (by simpa using c) (by simpa using b) e
abbrev C2(N:List Str)(vs:List V):St:=vs.map AA++BP (N.length-vs.length) AD
abbrev aj6(CX:CXT)(P:Al)(w:Ay)(K:AQ)(mg:Str->Option AG)(base:BI)(N:List Str)(qual:Str)(scope:BS)(f:AH)(cd:AG)(A:BW)(outer:List Env)(s:AJ)(H:Hp)(E:XK):Cx where
 prog:=P
 w:=w
 K:=K
 mg:=mg
 base:=base
 A:=A.deeper (HK qual scope s.heap.objs.size f cd)
 N:=N
 s₀:=s
 H₀:=H
 env:=HK qual scope s.heap.objs.size f cd
 outer:=outer
 stack:=HK qual scope s.heap.objs.size f cd::outer
 ex:=[]
 calm:=AC
 fn:=λ_=>AC
 pn:=[]
 xe:=λe s'=>AR (model P w) (A.deeper (HK qual scope s.heap.objs.size f cd)) (leaving (HK qual scope s.heap.objs.size f cd) e) (λ_ s''=>CX outer H s E e s'') (λe' s''=>CX outer H s E e' s'') s'
def ba4{a:BS}{n}(h:a.names.lookup x=AA .cell):∃c,(Kf n a.names []).lookup x=AA c:=by
 have q:=Jn a.names n [] (.inl h);exact Bh.mp q
def b08{M:CXT}{P:Al}{w:Ay}{K:AQ}{G:Str->Option AG}{j:BI}{N:List Str}{g:Str}{scope:BS}{f:AH}{F:AG}{d:List Env}{I:AJ}{E:XK}
  (S:FnScope N ps scope) (R:A.handled=AD) (l:Env0 P w K G j A d s H) (V:vs.length=ps.length) (r:i6 vs us)
  (x:InCallC s s.heap.objs.size (Ia (HK g scope s.heap.objs.size f F).kindOf (ps.zip us) λ_=>AD) (Kf (s.heap.objs.size+1) scope.names []) (Ib (HK g scope s.heap.objs.size f F).kindOf (ps.zip us) λ_=>AD) I) :
  Inv (aj6 M P w K G j N g scope f F A d s H E) [] (C2 N vs) H I:=by
 have Q:ps.length<=N.length:=by have:=congrArg CB S.pre;rw[DZ]at this;lia
 obtain ⟨D,U,rfl,L⟩:=x.done;have m:∀ b:AH,b ∉ (aj6 M P w K G j N g scope f F A d s H E).ex:=λb z=>absurd (show b ∈ ([]:List AH) from z) ∎;refine ⟨⟨l.mod,S.kind,rfl,rfl,Ab _,λy z c D h2=>?_,λy t=>?_,λy c _ h=>?_,λ_=>R,Ho l.frames,.inr ⟨rfl,rfl⟩,λb z=>absurd z (m b),l.bs,l.bsz,λb _ _=>m b,λb z=>absurd z (m b),l.funs,l.frf⟩,
  rfl,l.bare,Un.kept L,⟨_,x.toInCall.ns,λi y v D h2 h3=>?_⟩,λy c h=>⟨_,x.cell y c h⟩,l.hok.fresh (Ab _),λy c h=>?_,λp B=>absurd (show p ∈ ([]:List (AH × Obj)) from B) ∎,l.hok.kept L,?_⟩
 ·exact name_of_addr x.apart (PySem.mem_of_lookup D) (PySem.mem_of_lookup h2)
 ·rcases t with t|t
  ·exact ba4 t
  ·exact absurd rfl (S.nofree _ (PySem.mem_of_lookup t))
 ·exact Gp (x.above y c (PySem.mem_of_lookup h))
 ·have C:i<vs.length:=by
   unfold C2 at h2
   by_cases C:i<vs.length
   ·exact C
   ·rw[Au (by simpa using C)]at h2;rw[DX]at h2
    split at h2<;>cases h2
  have T:vs[i]?=AA v:=by
   unfold C2 at h2;rw[Ag (by simpa using C),Aj]at h2;cases e:vs[i]? with
   |none=>rw[e]at h2;cases h2
   |some a=>rw[e]at h2;cases h2;rfl
  obtain⟨u,J,O⟩:=r.get T;have B:ps[i]?=AA y:=by
   rw[<-S.pre,HW ⋯];exact D
  have o:ps.Nodup:=by rw[<-S.pre];exact S.nd.sublist (Il _ _)
  refine⟨u,O,?_⟩
  rcases S.par y (At B)with k|k
  ·exact .inl ⟨k,a79 o B J k⟩
  ·obtain⟨c,e⟩:=ba4 (n:=s.heap.objs.size+1) k;refine .inr ⟨.inl k,c,e,?_⟩;have q:=x.cell y c e;rw[a91 o B J (by show scope.names.lookup y≠_;rw[k];decide)]at q;exact q
 ·exact .inl (l.hok.fresh (Gp (x.above y c (PySem.mem_of_lookup h))))
 ·unfold C2;show _=N.length;rw[Ac,AT,Ez];lia
end L2
namespace L2
open PySem PySem.Spec PyProof.Rows
section
variable {X:Cx} {x:Str} {p pos:Pos} {e:AS} {es:List AS} {t:TA} {id T:String} {r:List V->Hp->VK->Prop}
abbrev tCB(r:List V->Hp->VK->Prop)(t:TA):TE:=λσ H Q=>t σ H λvs H1=>r vs H1 Q
def aq8(l:M5 X (.builtin id) r)(j:Gl X x)(i:X.mg x=AD)(f:Bn x=AA (.builtin id))(m:PA X (e::es) t)(g:x≠"__name__":=by decide)(c:(x==("__debug__":Str))=AF:=by decide)
  (k:An (e::es) X.env=(AF,eval e X.env)::An es X.env:=by rfl) (b:(CH pos (An es X.env)).any (·.1)=AF:=by rfl):PE X (.Call (.Name x p) (e::es) [] pos) (tCB r t):=by
 intro a s d H Q I h;refine CT (J7 I j i f ?_ g c);exact Ks (thn (m pos a s d H _ I h) λus s1⟨vs,H1,I1,r1,q1⟩=>l a s1 d H1 vs us Q I1 r1 q1) k b
def b09(l:M5 X (.type T) r)(j:Gl X x)(i:X.mg x=AD)(f:Bn x=AA (.type T))(m:PA X (e::es) t)(g:x≠"__name__":=by decide)(c:(x==("__debug__":Str))=AF:=by decide)
  (k:An (e::es) X.env=(AF,eval e X.env)::An es X.env:=by rfl) (b:(CH pos (An es X.env)).any (·.1)=AF:=by rfl):PE X (.Call (.Name x p) (e::es) [] pos) (tCB r t):=by
 intro a s d H Q I h;refine CT (J7 I j i f ?_ g c);exact Az (thn (m pos a s d H _ I h) λus s1⟨vs,H1,I1,r1,q1⟩=>l a s1 d H1 vs us Q I1 r1 q1) k b
end
end L2
namespace HT
open PySem PyProof.Rows
section
open PySem.SeqAt
open PySem.AutoSeq1 (wpAny_loadPart')
open PySem.MeetsSeq PySem.MeetsSeq2 PySem.MeetsSeq3
end
section
variable {prog:Al} {w:Ay} {A:BW} {E:AG->AJ->Prop} {s:AJ}
def cat_tup{t b}{vs ws}{Q}(r:Gn s.heap t vs.toArray)(x:Gn s.heap b ws.toArray)(m:vs≠[])
  (z:ws=[]->Q (.ref t) s) (y:ws≠[]->Q (.ref s.heap.objs.size) {s with heap:=s.heap.push {cls:=.type "tuple",data:=.seq (vs++ws).toArray}})
  (hsz:vs.length+ws.length<=sizeLine):AR (model prog w) A (Do .Add (.ref t) (.ref b)) Q E s:=by
 obtain⟨⟨B,o,p,k⟩,f,v,n,u⟩:=id r;obtain⟨⟨q,d,j,c⟩,a,i,l,h⟩:=id x;subst v u i h;have e:vs.toArray++ws.toArray=(vs++ws).toArray:=by simp
 by_cases g:ws=[]
 ·exact Im ⟨_,f,rfl⟩ ⟨_,a,rfl⟩ HL IR PySem.F.slot_tuple_add PySem.F.entry_tuple_add (PySem.F.args_tuple_add_2 _ _)
   (tuple_addW1 t b vs.toArray ws.toArray n l o d k c (by simpa using m) (by simp[g])) ⟨f,a,z g⟩
 ·refine Im ⟨_,f,rfl⟩ ⟨_,a,rfl⟩ HL IR PySem.F.slot_tuple_add PySem.F.entry_tuple_add (PySem.F.args_tuple_add_2 _ _)
   (tuple_addW2 t b vs.toArray ws.toArray n l o d k c (by simpa using m) (by simp_all) (by exact hsz)) ⟨f,a,?_⟩
  rw[e];exact y g
abbrev sIx(n d:Nat):Option Int->Nat
 |none=>d
 |some v=>if v<0 then(v+(n:Int)).toNat else min v.toNat n
def cr4 n d(b:d<=n)o:sIx n d o<=n:=by
 cases o with
 |none=>exact b
 |some v=>
  show(if v<0 then(v+n).toNat else min v.toNat n)<=n
  by_cases a:v<0
  ·rw[if_pos a];lia
  ·rw[if_neg a];exact Gv _ _
def be8(v:Int)(n d:Nat):(if v<0 then max (v+n) 0 else min v n)=sIx n d (AA v):=by
 show(if v<0 then max (v+n) 0 else min v n)=(if v<0 then(v+n).toNat else min v.toNat n)
 ·grind
def bu6 lo hi(n:Nat):Dp lo hi 1 n=((sIx n 0 lo:Int),(sIx n n hi:Int)):=by
 refine Prod.ext ?_ ?_
 ·cases lo with
  |none=>rfl
  |some v=>exact be8 v n 0
 ·cases hi with
  |none=>rfl
  |some v=>exact be8 v n n
def bv2(i j:Nat):Ck i j 1=j-i:=by
 unfold Ck;simp
 split<;>lia
def a07{v}{o}{Q}(p:HM v o)(h:Q o s):AR (model prog w) A (Kg v) Q E s:=by
 cases p with
 |none=>exact LF h
 |int i t=>exact slicePart_int h
def br0{sl}{vl vu}{a d}{n:Nat}{Q}(j:s.heap.IsSliceOf sl vl vu .none)(i:HM vl a)(g:HM vu d)
  (h:Q (((sIx n 0 a:Nat)),1,sIx n n d-sIx n 0 a) s):AR (model prog w) A (Fb (.ref sl) (pure n)) Q E s:=by
 obtain⟨m,c,k,e⟩:=id j;refine AB (AB (Aw c e (x:=vl) rfl (AB (Aw c e (x:=vu) rfl (AB (Aw c e rfl (AL ?_)))))));refine AB (LF ?_);refine AB (a07 i (AB (a07 g (AB (AL ?_)))));show AR _ _ (match Dp a d 1 n with|(a,d)=>pure (a,(1:Int),Ck a d 1)) _ _ s;rw[bu6 a d n];show AR _ _ (pure (((sIx n 0 a):Int),1,Ck (sIx n 0 a:Nat) ((sIx n n d:Nat)) 1)) _ _ s;rw[bv2];exact AL h
def b23(a:Array AG)(i k:Nat):((Dj k).filterMap λ(m:Nat)=>a[((i:Int)+m*1).toNat]?).toArray=((a.toList.drop i).take k).toArray:=by
 have e:(λ(m:Nat)=>a[(i+(m:Int)*1).toNat]?)=λm=>a[i+m]?:=by
  funext m
  have:((i:Int)+m*1).toNat=i+m:=by lia
  rw[this]
 rw[e];have:=pick_run a i k;rw[List.filterMap_map]at this;have b:((λx=>a[x]?)∘λx=>i+x)=λm=>a[i+m]?:=rfl;rw[b]at this;rw[this]
def getItem_tuple_cut{t c:AH}{items:Array AG}{j i:AG}{lo hi:Option Int}{Q:AG->AJ->Prop}(b:Gn s.heap t items)(k:s.heap.IsSliceOf c j i .none)(n:HM j lo)(l:HM i hi)
  (p:¬(sIx items.size 0 lo=0/\sIx items.size items.size hi=items.size))
  (h:Q (.ref s.heap.objs.size) {s with heap:=s.heap.push {cls:=.type "tuple",data:=.seq ((items.toList.drop (sIx items.size 0 lo)).take (sIx items.size items.size hi-sIx items.size 0 lo)).toArray}})
  (hsz:items.size<=sizeLine):AR (model prog w) A (Em (.ref t) (.ref c)) Q E s:=by
 have a:sizeOk (.seq ((items.toList.drop (sIx items.size 0 lo)).take (sIx items.size items.size hi-sIx items.size 0 lo)).toArray):=by
  show((items.toList.drop (sIx items.size 0 lo)).take (sIx items.size items.size hi-sIx items.size 0 lo)).toArray.size<=sizeLine;rw[Ad,DZ,EH,Dx];lia
 obtain⟨o,d,f,r⟩:=id k;have g:s.TypeIs (.ref c) "slice":=⟨o,d,f⟩;unfold Em
 try with_reducible refine CO ?_
 refine AB (KD b.typeIs ∅ ?_);refine AB (BO (name:=AV "__getitem__") b.typeIs DJ
  (BM DJ b.typeIs entry_tuple_getitem ?_ (args_tuple_getitem _ _)))
 show AR _ _ (Dd (.ref t)>>=_) _ _ s;refine AB (tupleItemsOf_ b ?_);refine AB (wpAny_typeOf g ?_);refine AB (br0 k n l ?_);have e:¬((((sIx items.size 0 lo:Nat):Int)==0&&(1:Int)==1&&(sIx items.size items.size hi-sIx items.size 0 lo)==items.size)=AC):=by
  intro q;exact p ⟨⋯,⋯⟩
 show AR _ _ (if(((sIx items.size 0 lo:Nat):Int)==0&&(1:Int)==1&&(sIx items.size items.size hi-sIx items.size 0 lo)==items.size)=AC then _ else _) _ _ s;rw[if_neg e,b23]
 first
  |exact AB (m:=Cn _) (Ba (AL ⟨_,rfl,AL h⟩) a)
  |exact AB (m:=Cn _) (Ba (AB (AL (AL ⟨_,rfl,AL h⟩))) a)
  |exact AB (AB (m:=Cn _) (Ba (AL (AL ⟨_,rfl,AL h⟩)) a))
  |exact AB (AB (m:=Cn _) (Ba (AL ⟨_,rfl,AL h⟩) a))
end
end HT
namespace L2
open PySem PySem.Spec PyProof.Rows
@[reducible]noncomputable def TO:=St->Hp->(Option Int->Hp->Prop)->Prop
abbrev PO(X:Cx)(e:Option AS)(t:TO):Prop:=
 ∀(pins:List (AH×Obj))(s:AJ)(σ:St)(H:Hp)(Q:Option Int->Hp->Prop),Inv X pins σ H s->t σ H Q ->
  AR (model X.prog X.w) X.A (evalPart e X.env) (λu s'=>∃o H',Inv X pins σ H' s'/\HM u o/\Q o H') X.xe s
abbrev ca2:TO:=λ_ H Q=>Q AD H
abbrev c93(t:TE):TO:=λσ H Q=>t σ H λx H1=>∃i,x=.int i/\Q (AA i) H1
section
variable {X:Cx} {e:AS} {te:TE} {lo hi:Option AS} {tl th:TO} {pos p2:Pos}
def cg5:PO X AD ca2:=by
 intro a s b H Q I h;exact AL ⟨AD,H,I,.none,h⟩
def ch8(h:PE X e te):PO X (AA e) (c93 te):=by
 intro a s b H Q I f;refine thn (h a s b H _ I f) λu s1 z23=>?_;obtain⟨x,j,g,c,d⟩:=z23;obtain⟨i,rfl,q⟩:=d;obtain⟨t,rfl⟩:=c;exact⟨AA i,j,g,.int i t,q⟩
abbrev SlR(X:Cx)(r:V->Option Int->Option Int->Hp->VK->Prop):Prop:=
 ∀(pins:List (AH×Obj))(s:AJ)(σ:St)(H:Hp)(x:V)(v vl vu:AG)(lo hi:Option Int)(sl:AH)(Q:VK),Inv X pins σ H s->i8 x v->s.heap.IsSliceOf sl vl vu .none->HM vl lo->HM vu hi->r x lo hi H Q ->
  ∃T id,Ge (.type T) "__getitem__"=pure (AA (.builtin id))/\s.TypeIs v T/\AR (model X.prog X.w) X.A (Em v (.ref sl)) (EP X pins σ Q) X.xe s
def SlR.or{r r'}(h:SlR X r)(h':SlR X r'):SlR X λx b c H Q=>r x b c H Q\/r' x b c H Q:=by
 intro a s d H x v f e b c g Q I i l k j q
 rcases q with q|q
 ·exact h a s d H x v f e b c g Q I i l k j q
 ·exact h' a s d H x v f e b c g Q I i l k j q
abbrev tSl(r:V->Option Int->Option Int->Hp->VK->Prop)(te:TE)(tl th:TO):TE:=λσ H Q=>te σ H λx H1=>tl σ H1 λl H2=>th σ H2 λu H3=>r x l u H3 Q
def b55{r}(m:SlR X r)(p:PE X e te)(n:PO X lo tl)(j:PO X hi th):PE X (.Subscript e (.Slice lo hi AD p2) pos) (tSl r te tl th):=by
 intro a s b H Q I h;refine Jo (thn (p a s b H _ I h) λv s1 z24=>?_);obtain⟨x,z,y,d,g⟩:=z24;refine wpAny_Slice (thn (n a s1 b z _ y g) λvl s2⟨l,H2,I2,pl,q2⟩=>thn (j a s2 b H2 _ I2 q2) λvu s3 z25=>?_);obtain⟨u,c,w,i,f⟩:=z25;refine AL ?_;have t:Inv X a b c {s3 with heap:=s3.heap.push {cls:=.type "slice",data:=.fields #[vl,vu,.none]}}:=w.kept λb ob=>AN _;obtain⟨T,A,q,k,o⟩:=m a {s3 with heap:=s3.heap.push {cls:=.type "slice",data:=.fields #[vl,vu,.none]}} b c x v vl vu l u s3.heap.objs.size Q t d (KF ..) pl i f;exact tail_any k q o rfl
abbrev R1(xs:List V)(lo hi:Option Int):List V:=(xs.drop (HT.sIx xs.length 0 lo)).take (HT.sIx xs.length xs.length hi-HT.sIx xs.length 0 lo)
def az6(xs)lo hi:(R1 xs lo hi).length<=xs.length:=by
 unfold R1;rw[DZ,EH];lia
abbrev di4(K:AQ):V->Option Int->Option Int->Hp->VK->Prop:=λx lo hi H Q=>∃a xs,x=.ref a/\SqT K H a xs /\
 ¬(HT.sIx xs.length 0 lo=0/\HT.sIx xs.length xs.length hi=xs.length)/\∀p,H p=AD->Q (.ref p) (upd H p (.tup (R1 xs lo hi)))
def cy0:SlR X (di4 X.K):=by
 intro f s t H x v w u d j y Q I k p m l h;obtain⟨a,c,rfl,n,o,q⟩:=h;cases k;obtain⟨e,r,i,g⟩:=I.tuple n;have b:e.toArray.size=c.length:=by exact r.length.symm
 refine⟨"tuple",_,DJ.lookup,i.typeIs,?_⟩;refine HT.getItem_tuple_cut i p m l (b▸o) ?_ (b▸g);rw[b];refine⟨.ref s.heap.objs.size,_,I.laid (λb ob=>AN _) (Ab _) ?_,rfl,q _ (I.hok.fresh (Ab _))⟩;exact⟨Bd (az6 c d j) g,_,(r.drop (HT.sIx c.length 0 d)).take (HT.sIx c.length c.length j-HT.sIx c.length 0 d),G4.new _ _⟩
abbrev c55(K:AQ):R2:=λx y H Q=>∃a b xs ys,x=.ref a/\y=.ref b/\SqT K H a xs/\SqT K H b ys/\xs≠[]/\xs.length+ys.length<=sizeLine /\
 (ys=[]->Q (.ref a) H)/\(ys≠[]->∀p,H p=AD->Q (.ref p) (upd H p (.tup (xs++ys))))
def i6.nil_iff{xs}{us}(r:i6 xs us):us=[]↔xs=[]:=by
 cases r with
 |nil=>simp
 |cons _ _=>simp
def ce3:OpR X (Do .Add) (c55 X.K):=by
 intro e s D H x y v u Q I l k h;obtain⟨a,b,j,i,rfl,rfl,C,B,A,g,n,m⟩:=h;cases l;cases k;obtain⟨t,d,r,_⟩:=I.tuple C;obtain⟨f,c,p,_⟩:=I.tuple B;refine HT.cat_tup r p (λz=>A (d.nil_iff.mp z)) (λz=>⟨.ref a,H,I,rfl,n (c.nil_iff.mp z)⟩) (λz=>?_) (by rw[<-d.length,<-c.length];exact g);refine⟨.ref s.heap.objs.size,_,I.laid (t':=s.toks) (o:=.tup (j++i)) (λb ob q=>AN _ q) (Ab _) ?_,rfl,m (λw=>z (c.nil_iff.mpr w)) _ (I.hok.fresh (Ab _))⟩;exact⟨by rw[Ac];exact g,_,d.append c,G4.new _ _⟩
end
variable{pins:List (AH×Obj)}{σ:St}{H:Hp}{s:AJ}
abbrev ixN(n:Nat)(i:Int):Option Nat:=if 0<=i then(if i<n then AA i.toNat else AD)else if -(n:Int)<=i then AA (i+n).toNat else AD
abbrev atI{α:Type}(xs:List α)(i:Int):Option α:=(ixN xs.length i).bind λj=>xs[j]?
def at8{n:Nat}{i:Int}{j:Nat}(h:ixN n i=AA j):HN i n=AA j/\j<n/\-(n:Int)<=i/\i<n:=by
 unfold ixN at h
 by_cases b:0<=i
 ·rw[if_pos b]at h
  by_cases a:i<n
  ·rw[if_pos a]at h;have e:i.toNat=j:=BA h;exact⟨by rw[JM b a,e],⋯,⋯,a⟩
  ·rw[if_neg a]at h;cases h
 ·rw[if_neg b]at h
  by_cases a:-(n:Int)<=i
  ·rw[if_pos a]at h;have e:(i+n).toNat=j:=BA h;exact⟨by rw[Io ⋯ a,e],⋯,a,⋯⟩
  ·rw[if_neg a]at h;cases h
def ar9{α}{xs}{i}{v:α}(h:atI xs i=AA v):∃j,HN i xs.length=AA j/\xs[j]?=AA v/\j<xs.length/\-xs.length<=i/\i<xs.length:=by
 unfold atI at h;cases e:ixN xs.length i with
 |none=>simp_all
 |some j=>
  rw[e]at h;obtain⟨d,c,b,a⟩:=at8 e;exact⟨j,d,h,c,b,a⟩
abbrev bc8(b:AS):Prop:=∀o i,subscripted b AF o i=operate [o,i] (Em o i)
abbrev IxR(X:Cx)(r:R2):Prop:=
 ∀(value slice:AS)(pins:List (AH×Obj))(s:AJ)(σ:St)(H:Hp)(x y:V)(v u:AG)(Q:VK),Inv X pins σ H s->i8 x v->i8 y u->r x y H Q ->
  subscripted slice AF v u=operate [v,u] (Em v u)->AR (model X.prog X.w) X.A (GY value slice v u) (EP X pins σ Q) X.xe s
abbrev MtR(X:Cx)(id:String)(r:V->List V->Hp->VK->Prop):Prop:=
 ∀(pins:List (AH×Obj))(s:AJ)(σ:St)(H:Hp)(x:V)(xs:List V)(v:AG)(us:List AG)(Q:VK),Inv X pins σ H s->i8 x v->i6 xs us->r x xs H Q ->
  AR (model X.prog X.w) X.A (call (.builtin id) (v::us)) (EP X pins σ Q) X.xe s
section
variable {X:Cx} {a b:AS} {ta tb:TE} {pos:Pos}
def IxR.or{r g:R2}(h:IxR X r)(h':IxR X g):IxR X (λx y H Q=>r x y H Q\/g x y H Q):=by
 intro a b c s d H x y v u Q I f e q i
 rcases q with q|q
 ·exact h a b c s d H x y v u Q I f e q i
 ·exact h' a b c s d H x y v u Q I f e q i
def c53{r:R2}(f:IxR X r)(i:PE X a ta)(g:PE X b tb)(e:bc8 b):PE X (.Subscript a b pos) (tOp r ta tb):=by
 intro c s d H Q I h;exact Jo (ay6 i g I h λv u s2 x y H2 I2 rx ry q=>f a b c s2 d H2 x y v u Q I2 rx ry q (e _ _))
abbrev dd1(K:AQ):R2:=λx y H Q=>∃p xs i v,x=.ref p/\y=.int i/\SqL K H p xs/\atI xs i=AA v/\Q v H
abbrev dh4(K:AQ):R2:=λx y H Q=>∃p xs i v,x=.ref p/\y=.int i/\SqT K H p xs/\atI xs i=AA v/\Q v H
abbrev df4:R2:=λx y H Q=>∃z i c,x=.str z/\y=.int i/\z.length<=sizeLine/\atI z.cps.toList i=AA c/\Q (.str ⟨#[c]⟩) H
def ce4:IxR X (dd1 X.K):=by
 intro d e a s m H x y v u Q I C B h n;obtain⟨p,M,i,z,rfl,rfl,D,F,q⟩:=h;cases C;obtain⟨t,rfl⟩:=B;obtain⟨k,r,g,N⟩:=I.list D;obtain⟨j,c,L,P,J,G⟩:=ar9 F;obtain⟨w,A,f⟩:=r.get L;have E:=r.length;have O:=ab8;have b:EP X a m Q w s:=⟨z,H,I,f,q⟩
 by_cases o:0<=i
 ·have l:i.toNat=j:=by
   rw[JM o G]at c;exact BA c
  exact item_listR g.isList o ⋯ (by rw[l];simpa using A) b n
 ·have l:(i+(k.toArray.size:Int)).toNat=j:=by
   rw[Io ⋯ J]at c;rw[Ad,<-E];exact BA c
  exact Ip (x:=w) g.isList.typeIs KG.lookup
   (wpAny_getItem_list_neg (Q:=λr s'=>r=w/\EP X a m Q r s') g.isList ⋯ (by rw[Ad]<;>lia) ⋯ (by rw[l];simpa using A) ⟨rfl,b⟩) n
def cl1:IxR X (dh4 X.K):=by
 intro b c a s f H x y v u Q I l k h n;obtain⟨p,F,i,z,rfl,rfl,o,B,q⟩:=h;cases l;obtain⟨t,rfl⟩:=k;obtain⟨m,r,g,G⟩:=I.tuple o;obtain⟨j,D,C,N,M,L⟩:=ar9 B;obtain⟨w,E,d⟩:=r.get C;have A:=r.length;have J:=ab8;have e:EP X a f Q w s:=⟨z,H,I,d,q⟩;exact Ip (x:=w) g.typeIs DY.lookup
  (IS (j:=j) (Q:=λr s'=>r=w/\EP X a f Q r s') g ⋯ ⋯ (by rw[Ad,<-A];exact D) (by simpa using E) ⟨rfl,e⟩) n
def cy7:IxR X df4:=by
 intro a b d s A H x y v u Q I g f h k;obtain⟨z,i,c,rfl,rfl,C,m,q⟩:=h;obtain⟨t,rfl⟩:=g;obtain⟨B,rfl⟩:=f;obtain⟨j,e,p,E,o,n⟩:=ar9 m;have l:z.cps.toList.length=z.length:=by simp[Str.length]
 rw[l]at e o n;have D:=ab8;exact tail_any (typeIs_str s z t) slot_str_getitem.lookup (getItem_str (c:=c) (by
  have w:AE (i < -(2^63:Int))=AF:=decide_eq_false ⋯;have r:AE (i>=2^63)=AF:=decide_eq_false ⋯;rw[w,r,Jp]) (by rw[e];simpa using p) ⟨.str ⟨#[c]⟩,H,I.tok _,⟨_,rfl⟩,q⟩) k
def bu3(a:List AG)n j(u:AG):DN (·.setIfInBounds j u) {cls:=.type "list",data:=.seq a.toArray n}={cls:=.type "list",data:=.seq (a.set j u).toArray n}:=by
 simp[DN]
theorem Inv.lst{p}{xs}(I:Inv X pins σ H s)(h:H p=AA (.lst xs)):
  ∃(a:List AG)(n:Nat),i6 xs a/\s.heap.get? p=AA {cls:=.type "list",data:=.seq a.toArray n}/\xs.length<=sizeLine:=by
 obtain⟨z,a,n,r,e⟩:=I.hok p _ h;exact⟨a,n,r,e,z⟩
def Inv.lstUpd{p}{xs ys}{a its':List AG}{n n'}{f}(I:Inv X pins σ H s)(h:H p=AA (.lst xs))
  (c:s.heap.get? p=AA {cls:=.type "list",data:=.seq a.toArray n}) (b:f {cls:=.type "list",data:=.seq a.toArray n}={cls:=.type "list",data:=.seq its'.toArray n'}) (r:i6 ys its') (hz:ys.length<=sizeLine) t :
  Inv X pins σ (upd H p (.lst ys)) {s with heap:=s.heap.update p f,toks:=t}:=by
 have e:(s.heap.update p f).get? p=AA {cls:=.type "list",data:=.seq its'.toArray n'}:=by
  rw[CP f c (by rw[b]<;>rfl),b]
 refine I.write (by rw[h];trivial) (.inl rfl) (λb u hb=>(DU _ _ (BE hb)).trans) ⟨_,e⟩ ?_;exact⟨hz,its',n',r,e⟩
abbrev c84:V->V->V->Hp->(Hp->Prop)->Prop:=λo i v H Q=>∃p xs k j,o=.ref p/\i=.int k/\H p=AA (.lst xs)/\ixN xs.length k=AA j/\Q (upd H p (.lst (xs.set j v)))
def b64:bp0 X c84:=by
 intro a s y H o i v F G u Q I B C A h;obtain⟨p,z,k,j,rfl,rfl,g,E,q⟩:=h;cases B;obtain⟨t,rfl⟩:=C;obtain⟨b,n,r,d,D⟩:=I.lst g;obtain⟨c,K,m,l⟩:=at8 E;have e:=r.length;have J:=ab8;have x:Inv X a y (upd H p (.lst (z.set j v))) {s with heap:=s.heap.update p (DN (·.setIfInBounds j u))}:=
  I.lstUpd g d (bu3 b n j u) (r.set A j) (by rw[List.length_set];exact D) s.toks
 by_cases w:0<=k
 ·have f:k.toNat=j:=by
   rw[JM w l]at c;exact BA c
  exact W.ki_setAt d w ⋯ (by rw[Ad,<-e];exact l) (by rw[f];exact⟨_,x,q⟩)
 ·have f:(k+(b.toArray.size:Int)).toNat=j:=by
   rw[Io ⋯ m]at c;rw[Ad,<-e];exact BA c
  exact W.ki_setBack d ⋯ (by rw[Ad,<-e];exact m) ⋯ (by rw[f];exact⟨_,x,q⟩)
def br8(lo hi:Option Int)(n:Nat):(EI lo hi AD n).1=((HT.sIx n 0 lo:Nat):Int)/\(EI lo hi AD n).2.1=((HT.sIx n n hi:Nat):Int)/\(EI lo hi AD n).2.2=1:=by
 refine⟨?_,?_,rfl⟩
 ·cases lo with
  |none=>simp[EI,HT.sIx]
  |some i=>
   simp only[EI,HT.sIx,Ic,show(1:Int)>0 by decide,if_true]
   by_cases h:i<0
   ·simp only[h,if_true]<;>lia
   ·simp only[h,if_false]<;>lia
 ·cases hi with
  |none=>simp[EI,HT.sIx]
  |some i=>
   simp only[EI,HT.sIx,Ic,show(1:Int)>0 by decide,if_true]
   by_cases h:i<0
   ·simp only[h,if_true]<;>lia
   ·simp only[h,if_false]<;>lia
def br5(a:List AG)lo hi:slicePick a.toArray lo hi AD=((a.drop (HT.sIx a.length 0 lo)).take (HT.sIx a.length a.length hi-HT.sIx a.length 0 lo)).toArray:=by
 obtain⟨d,c,b⟩:=br8 lo hi a.toArray.size;unfold slicePick;rw[d,c,b];simp only[sliceRange_one,pick_run,Ad]
abbrev dd4(K:AQ):V->Option Int->Option Int->Hp->VK->Prop:=λx lo hi H Q=>∃a xs,x=.ref a/\SqL K H a xs/\∀p,H p=AD->Q (.ref p) (upd H p (.lst (R1 xs lo hi)))
def cc7:SlR X (dd4 X.K):=by
 intro e s p H x v u t d g w Q I i o k j h;obtain⟨a,b,rfl,n,q⟩:=h;cases i;obtain⟨l,r,f,m⟩:=I.list n;have c:=r.length;refine⟨"list",_,KG.lookup,f.isList.typeIs,?_⟩;refine wpAny_getItem_list_slice f.isList o k j .none ∎ ?_ (by rw[Ad]<;>lia);rw[br5,<-c];refine⟨.ref s.heap.objs.size,_,I.laid (λb ob=>AN _) (Ab _) ?_,rfl,q _ (I.hok.fresh (Ab _))⟩;exact⟨Bd (az6 b d g) m,_,0,(r.drop (HT.sIx b.length 0 d)).take (HT.sIx b.length b.length g-HT.sIx b.length 0 d),Ai _ rfl⟩
def bs0:M5 X (.builtin "len") (λxs H Q=>∃p b,xs=[.ref p]/\(SqL X.K H p b\/SqT X.K H p b)/\Q (.int b.length) H):=by
 intro g s l H xs m Q I r h;obtain⟨p,b,rfl,c,q⟩:=h;obtain⟨u,rfl,j⟩:=ac9 r;cases j;have n:=ab8
 rcases c with c|c
 ·obtain⟨f,d,e,k⟩:=I.list c;have a:=d.length;exact Calls.call_len_list e.isList (by simp only[Ad]<;>lia) ⟨.int b.length,H,I.tok _,⟨s.toks+1,by rw[Ad,a]⟩,q⟩
 ·obtain⟨f,d,e,k⟩:=I.tuple c;have a:=d.length;exact len_tuple e (by simp only[Ad]<;>lia) ⟨.int b.length,H,I.tok _,⟨s.toks+1,by rw[Ad,a]⟩,q⟩
def br9:M5 X (.type "list") λxs H Q=>∃p c,xs=[.ref p]/\(SqL X.K H p c\/SqT X.K H p c)/\∀l,H l=AD->Q (.ref l) (upd H l (.lst c)):=by
 intro i s B H xs E Q I r h;obtain⟨p,c,rfl,k,q⟩:=h;obtain⟨u,rfl,D⟩:=ac9 r;cases D;have t:∀its,i6 c its->c.length<=sizeLine->∀(h')g,(∀b A,s.heap.get? b=AA A->h'.get? b=AA A) ->
   h'.get? s.heap.objs.size=AA {cls:=.type "list",dict:=AD,data:=.seq its.toArray g,slots:=#[]}->EP X i B Q (.ref s.heap.objs.size) {s with heap:=h'}:=λits d j h' g kp e=>
  ⟨.ref s.heap.objs.size,_,I.laid kp (Ab _) (show t0 X.prog X.w _ h' _ (.lst c) from⟨j,its,g,d,e⟩),rfl,q _ (I.hok.fresh (Ab _))⟩
 rcases k with k|k
 ·obtain⟨its,d,v,j⟩:=I.list k;have m:=d.length;obtain⟨o,x,z,n,y⟩:=v.isList;exact call_list_seq p (.inl rfl) x z y (λh' g kp=>t its d j h' g kp) (by simp_all)
 ·obtain⟨its,d,v,j⟩:=I.tuple k;have m:=d.length;obtain⟨o,x,z,n,y⟩:=v;exact call_list_seq p (.inr rfl) x z y (λh' g kp=>t its d j h' g kp) (by simp_all)
def br6:M5 X (.type "tuple") λxs H Q=>∃p a,xs=[.ref p]/\((SqL X.K H p a/\∀l,H l=AD->Q (.ref l) (upd H l (.tup a)))\/(SqT X.K H p a/\Q (.ref p) H)):=by
 intro f s t H xs v Q I r h;obtain⟨p,a,rfl,h⟩:=h;obtain⟨u,rfl,m⟩:=ac9 r;cases m
 rcases h with⟨e,q⟩|⟨e,q⟩
 ·obtain⟨b,c,d,g⟩:=I.list e;have i:=c.length;refine call_tuple_list d.isList (λh' kp=>?_) (by simp_all);have j:=I.kept (t':=s.toks) kp;have n:=
   j.laid (t':=s.toks) (λb o=>AN _) (Ab _) (show t0 X.prog X.w _ _ _ (.tup a) from⟨g,b,c,G4.new _ _⟩)
  exact⟨.ref h'.objs.size,_,n,rfl,q _ (j.hok.fresh (Ab _))⟩
 ·obtain⟨b,c,d,g⟩:=I.tuple e;exact call_tuple_same d ⟨.ref p,H,I,rfl,q⟩
abbrev tyV(K:AQ)(T:String)(x:V)(H:Hp):Prop:=match x with
 |.str _=>T="str"
 |.int _=>T="int"
 |.ref p=>(T="list"/\∃xs,SqL K H p xs)\/(T="tuple"/\∃o,K.lookup p=AA o/\o.cls=.type "tuple"/\o.dict=AD)\/
   (T="dict"/\((∃kvs,H p=AA (.dK kvs))\/∃kvs,H p=AA (.dT kvs)))\/(T="set"/\∃S n,H p=AA (.set S n))
 |_=>False
def bi4{T:String}{x:V}{v:AG}(I:Inv X pins σ H s)(r:i8 x v)(f:tyV X.K T x H):
  s.TypeIs v T/\∀a,v=.ref a->∃k,s.heap.get? a=AA k/\k.dict=AD:=by
 cases x with
 |str z=>
  obtain⟨t,rfl⟩:=r;cases(show T="str" from f);exact⟨typeIs_str s z t,λ_ e=>nomatch e⟩
 |int i=>
  obtain⟨t,rfl⟩:=r;cases(show T="int" from f);exact⟨typeIs_int s i t,λ_ e=>nomatch e⟩
 |ref p=>
  cases r
  rcases f with⟨rfl,A,w⟩|⟨rfl,o,b,y,h⟩|⟨rfl,b⟩|⟨rfl,S,n,b⟩
  ·obtain⟨q,_,j,_⟩:=I.list w;refine⟨j.isList.typeIs,λa e=>?_⟩;cases e;obtain⟨o,n,e,c,h,_⟩:=j;exact⟨o,e,h⟩
  ·refine⟨⟨o,I.kIn p o b,y⟩,λa e=>?_⟩;cases e;exact⟨o,I.kIn _ o b,h⟩
  ·have z:∃o,s.heap.get? p=AA o/\o.ExactDict:=by
    rcases b with⟨g,b⟩|⟨g,b⟩
    ·obtain⟨_,_,_,_,o,_,_,e,d,_⟩:=I.hok p _ b;exact⟨o,e,d⟩
    ·obtain⟨_,_,_,_,o,_,_,e,d,_⟩:=I.hok p _ b;exact⟨o,e,d⟩
   obtain⟨o,e,d⟩:=z;refine⟨⟨o,e,d.1⟩,λa e2=>?_⟩;cases e2;exact⟨o,e,d.2.1⟩
  ·obtain⟨o,_,_,_,e,d,_⟩:=I.hok p _ b;refine⟨⟨o,e,d.1⟩,λa e2=>?_⟩;cases e2;exact⟨o,e,d.2.1⟩
 |_=>exact AU f
abbrev df1(K:AQ)(T:String)(r:V->List V->Hp->VK->Prop)(to:TE):TE:=λσ H Q=>to σ H λx H1=>tyV K T x H1/\r x [] H1 Q
abbrev tBM(K:AQ)(T:String)(r:V->List V->Hp->VK->Prop)(to:TE)(t:TA):TE:=λσ H Q=>to σ H λx H1=>tyV K T x H1/\t σ H1 λxs H2=>r x xs H2 Q
variable {o e:AS} {es:List AS} {to:TE} {t:TA} {name:Str} {apos cpos:Pos} {T id:String} {r:V->List V->Hp->VK->Prop}
def bl5(l:PlainAttrs T)(d:Slot T name id)(e:typeOf (.builtin id)=pure (.type "method_descriptor"))(n:MtR X id r)(m:PE X o to)
  (c:Cy o name X.env (eval o X.env)=eval o X.env:=by rfl) (b:(apos.endLine==cpos.line)=AC:=by rfl):PE X (.Call (.Attribute o name apos) [] [] cpos) (df1 X.K T r to):=by
 intro a s f H Q I h;refine wpAny_Call_method0_late c b (thn (m a s f H _ I h) λv s1 z26=>?_);obtain⟨x,t,i,g,j,k⟩:=z26;obtain⟨q,p⟩:=bi4 i g j;exact⟨T,id,l,d,e,q,p,CD rfl (PySem.evalArgs_none (n a s1 f t x [] v [] Q i g .nil k))⟩
def c88(q:PlainAttrs T)(f:Slot T name id)(j:typeOf (.builtin id)=pure (.type "method_descriptor"))(y:MtR X id r)(w:PE X o to)(z:PA X (e::es) t)
  (d:Cy o name X.env (eval o X.env)=eval o X.env:=by rfl)
  (g:((CH cpos (An (e::es) X.env)).all (λx=>!x.1)&&(FA cpos (Da [] X.env)).all (λx=>x.1.isSome)
   &&AE ((e::es).length+([]:List Hq).length+(if([]:List Hq).isEmpty then 0 else 1)<30))=AC:=by rfl)
  (c:(apos.endLine==cpos.line)=AC:=by rfl) (u:An (e::es) X.env=(AF,eval e X.env)::An es X.env:=by rfl) (b:(CH cpos (An es X.env)).any (·.1)=AF:=by rfl) :
  PE X (.Call (.Attribute o name apos) (e::es) [] cpos) (tBM X.K T r to t):=by
 intro a s i H Q I h;refine Iq d g c rfl (thn (w a s i H _ I h) λv s1 z27=>?_);obtain⟨x,C,m,k,n,p⟩:=z27;obtain⟨B,A⟩:=bi4 m k n;refine⟨T,id,q,f,j,B,A,?_⟩;have l:=z cpos a s1 i C _ m p;rw[u]at l ⊢;refine CD (by show(AF||(CH cpos (An es X.env)).any (·.1))=AF;rw[b]<;>rfl) (Cv ?_);exact thn l λus s2⟨vs,H2,I2,r2,q2⟩=>y a s2 i H2 x vs v us Q I2 k r2 q2
end
end L2
namespace L2
open PySem PySem.Spec PyProof.Rows
variable{us:List AG}{xs:List V}
abbrev MtM(X:Cx)(id:String)(r:V->List V->Hp->VK->Prop):Prop:=
 ∀(pins:List (AH×Obj))(s:AJ)(σ:St)(H:Hp)(x:V)(xs:List V)(v:AG)(us:List AG)(Q:VK),Inv X pins σ H s->i8 x v->i6 xs us->r x xs H Q ->
  AR (model X.prog X.w) X.A (call (.builtin id) (v::us)) (EP X pins σ Q) X.xe s
def i6.one:∀{x}{a},i6 [x] a->∃u,a=[u]/\i8 x u
 |_,_,.cons r .nil=>⟨_,rfl,r⟩
def i6.two{x y}(h:i6 [x,y] us):∃u v,us=[u,v]/\i8 x u/\i8 y v:=by
 cases h with|cons r t=>cases t with|cons q t=>cases t;exact⟨_,_,rfl,r,q⟩
def i6.zero:∀{a:List AG},i6 [] a->a=[]
 |_,.nil=>rfl
theorem i6.dropLast(h:i6 xs us):i6 xs.dropLast us.dropLast:=by
 induction h with
 |nil=>exact .nil
 |cons r t c=>
  cases t with
  |nil=>exact .nil
  |cons q d=>exact .cons r c
theorem i6.eraseIdx:∀{a}{b}i,i6 a b->i6 (a.eraseIdx i) (b.eraseIdx i)
 |_,_,_,.nil=>.nil
 |_,_,0,.cons _ t=>t
 |_,_,i+1,.cons r t=>.cons r (i6.eraseIdx i t)
theorem i6.reverse(h:i6 xs us):i6 xs.reverse us.reverse:=by
 induction h with
 |nil=>exact .nil
 |cons r t c=>rw[CM,CM];exact i6.append c (.cons r .nil)
def bt5{a:Type}(l:List a):l.eraseIdx (l.length-1)=l.dropLast:=by
 simp_all
theorem a80{a:Type}:∀(l:List a)i,(l.eraseIdx i).length<=l.length
 |[],_=>Ab _
 |_::_,0=>Ik _
 |_::r,i+1=>JN (a80 r i)
section
variable {X:Cx} {pins:List (AH×Obj)} {σ:St} {H:Hp} {s:AJ} {l b:AH} {ys zs:List V}
def Inv.lset{a its':List AG}{n}{f}{t'}(I:Inv X pins σ H s)(d:H l=AA (.lst xs))
  (e:s.heap.get? l=AA {cls:=.type "list",data:=.seq a.toArray n}) (c:f a.toArray=its'.toArray) (b:i6 ys its') (hz:ys.length<=sizeLine) :
  Inv X pins σ (upd H l (.lst ys)) {s with heap:=s.heap.update l (DN f),toks:=t'}:=by
 have q:=PySem.IsL.update e f;rw[c]at q;refine I.write (d▸trivial) (.inl rfl) (λb' u hb=>(DU s.heap (DN f) (BE hb)).trans) ⟨_,q⟩ ?_;exact⟨hz,its',_,b,q⟩
def Inv.lnew{its}{t'}(I:Inv X pins σ H s)(a:i6 ys its)(hz:ys.length<=sizeLine):
  Inv X pins σ (upd H s.heap.objs.size (.lst ys)) {s with heap:=s.heap.push {cls:=.type "list",data:=.seq its.toArray},toks:=t'}:=
 I.laid (λ_ _=>AN _) (Ab _) ⟨hz,its,0,a,Ai _ rfl⟩
theorem Inv.fresh(I:Inv X pins σ H s):H s.heap.objs.size=AD:=I.hok.fresh (Ab _)
def Inv.lstM(I:Inv X pins σ H s)(b:H l=AA (.lst xs)):xs.length<=sizeLine/\∃(a:List AG)(n:Nat),i6 xs a/\xs.length=a.length/\s.heap.get? l=AA {cls:=.type "list",data:=.seq a.toArray n}:=by
 obtain⟨z,a,n,r,e⟩:=I.hok l _ b;exact⟨z,a,n,r,r.length,e⟩
def ba2{n}(h:n<=sizeLine):CL n=AF:=decide_eq_false ⋯
end
section
variable {X:Cx}
abbrev cj9:V->List V->Hp->VK->Prop:=λx vs H Q=>∃l xs y,x=.ref l/\vs=[y]/\H l=AA (.lst xs)/\xs.length<sizeLine/\Q .non (upd H l (.lst (xs++[y])))
def a77:MtM X "list.append" cj9:=by
 intro b s i H x k v m Q I d f h;obtain⟨l,j,y,rfl,rfl,c,o,q⟩:=h;cases d;obtain⟨u,rfl,g⟩:=f.one;obtain⟨z,a,n,r,p,e⟩:=I.lstM c;refine Ed F.slot_list_append ⟨_,e,rfl⟩ F.entry_list_append (F.args_list_append_2 _ _) (PySem.list_append l a.toArray n u (by rw[Ad];lia)) ⟨e,?_⟩;refine⟨.non,_,I.lset (its':=a++[u]) c e ∎ (r.append (.cons g .nil)) ?_,rfl,q⟩;rw[Ac,EA];lia
abbrev bg9:V->List V->Hp->VK->Prop:=λx vs H Q=>∃l b xs zs,x=.ref l/\vs=[.ref b]/\H l=AA (.lst xs)/\H b=AA (.lst zs)/\xs.length+zs.length<=sizeLine/\Q .non (upd H l (.lst (xs++zs)))
def bx0:MtM X "list.extend" bg9:=by
 intro g s A H x E v F Q I j k h;obtain⟨l,b,D,B,rfl,rfl,i,w,G,q⟩:=h;cases j;obtain⟨u,rfl,m⟩:=k.one;cases m;obtain⟨z,c,n,r,J,e⟩:=I.lstM i;obtain⟨C,a,p,o,t,y⟩:=I.lstM w;have f:c.toArray.size+a.toArray.size<=sizeLine:=by simp_all
 have d:¬(!c.toArray.isEmpty&&CL (c.toArray.size+a.toArray.size))=AC:=by
  rw[ba2 f,Je];exact AI
 refine Ed JO ⟨_,e,rfl⟩ JD (Ir _ _)
  (AutoSeq1.list_extend_list_list_0 l c.toArray n b a.toArray p d ⋯ ⋯) ⟨e,y,?_⟩
 refine⟨.non,_,I.lset i e ∎ (r.append o) ?_,rfl,q⟩;rw[Ac];lia
abbrev di7:V->List V->Hp->VK->Prop:=λx vs H Q=>∃l xs y,x=.ref l/\vs=[]/\H l=AA (.lst xs)/\xs[xs.length-1]?=AA y/\Q y (upd H l (.lst xs.dropLast))
def cn1:MtM X "list.pop" di7:=by
 intro d s p H x w v A Q I g i h;obtain⟨l,t,y,rfl,rfl,f,k,q⟩:=h;cases g;have c:=i.zero;subst c;obtain⟨z,a,n,r,o,e⟩:=I.lstM f;obtain⟨u,m,j⟩:=r.get k;have b:a.toArray[a.toArray.size-1]?=AA u:=by
  show a.toArray[a.length-1]?=AA u;rw[<-Hr,<-o];exact m
 refine Ed KH ⟨_,e,rfl⟩ Jq (F.args_list_pop_1 _) (MeetsSeq.list_pop_last l a.toArray n u b (by rw[Ad];lia)) ⟨e,?_⟩;refine⟨y,_,I.lset (its':=a.dropLast) f e ?_ r.dropLast ?_,j,q⟩
 ·show a.toArray.eraseIdxIfInBounds (a.toArray.size-1)=a.dropLast.toArray;rw[Ad,GM,bt5]
 ·rw[List.length_dropLast];lia
abbrev cz1:V->List V->Hp->VK->Prop:=λx vs H Q=>∃l xs i k y,x=.ref l/\vs=[.int i]/\H l=AA (.lst xs)/\-(2^63)<=i/\i<2^63/\HN i xs.length=AA k/\xs[k]?=AA y/\Q y (upd H l (.lst (xs.eraseIdx k)))
def b80:MtM X "list.pop" cz1:=by
 intro c s E H x G v J Q I g j h;obtain⟨l,f,i,k,y,rfl,rfl,d,D,C,B,o,q⟩:=h;cases g;obtain⟨u,rfl,m⟩:=j.one;obtain⟨t,rfl⟩:=m;obtain⟨z,a,n,r,A,e⟩:=I.lstM d;obtain⟨w,p,b⟩:=r.get o;refine Ed KH ⟨_,e,rfl⟩ Jq (F.args_list_pop_2 _ _)
  (MeetsSeq.list_pop_at l a.toArray n i t k w (fitsIndex_both D C) (by rw[Ad,<-A];exact B) (by rw[<-Hr];exact p) (by rw[Ad];lia)) ⟨e,?_⟩
 refine⟨y,_,I.lset (its':=a.eraseIdx k) d e ?_ (r.eraseIdx k) ?_,b,q⟩
 ·rw[GM]
 ·have:=a80 f k;lia
abbrev di0:R2:=λx y H Q=>∃l b xs zs,x=.ref l/\y=.ref b/\H l=AA (.lst xs)/\H b=AA (.lst zs)/\xs.length+zs.length<=sizeLine/\∀p,H p=AD->Q (.ref p) (upd H p (.lst (xs++zs)))
def co6:OpR X (Do .Add) di0:=by
 intro d s t H x y v u Q I g f h;obtain⟨l,b,B,w,rfl,rfl,k,m,D,q⟩:=h;cases g;cases f;obtain⟨z,c,n,r,E,e⟩:=I.lstM k;obtain⟨A,a,C,i,j,p⟩:=I.lstM m;refine PySem.P.add_list e p ?_ (by rw[Ad,Ad];lia);have o:c.toArray++a.toArray=(c++a).toArray:=by simp
 rw[o];exact⟨.ref _,_,I.lnew (t':=s.toks) (r.append i) (by rw[Ac];lia),rfl,q _ I.fresh⟩
end
end L2
namespace L2
open PySem PySem.Spec PyProof.Rows
variable{kvs:List (Ak×V)}{o:Option V}{u:AG}{y:V}{P:Al}{H H':Hp}{xs:List (Ak×AH×AG)}{b a:AH}{X:Cx}{pins:List (AH×Obj)}{σ:St}{s:AJ}{A:BW}{Q:AG->AJ->Prop}{pos:Pos}
section
variable {κ:Type} [DecidableEq κ]
abbrev r8(kvs:List (κ×V))(k:κ):Option V:=(kvs.find? λkv=>AE (kv.1=k)).map (·.2)
abbrev A6(kvs:List (κ×V))(k:κ)(v:V):List (κ×V):=
 if(kvs.any λkv=>AE (kv.1=k))=AC then kvs.map (λkv=>if kv.1=k then(kv.1,v)else kv)else kvs++[(k,v)]
def aq9{p}{r}{k:κ}(e:p.1=k):r8 (p::r) k=AA p.2:=by simp[r8,e]
def aq6{p}{r}{k:κ}(e:¬p.1=k):r8 (p::r) k=r8 r k:=by simp[r8,e]
theorem aq7(k:κ):∀a,(a.any λkv=>AE (kv.1=k))=(r8 a k).isSome
 |[]=>rfl
 |p::r=>by
  rw[Fs]
  by_cases e:p.1=k
  ·simp only[aq9 e,decide_eq_true e,Bool.true_or,FR]
  ·rw[aq6 e,decide_eq_false e];exact aq7 k r
def ao4 kvs(k:κ)v:(A6 kvs k v).length<=kvs.length+1:=by
 unfold A6
 split
 ·rw[AT];lia
 ·simp_all
def b63{kvs}{k:κ}v(h:r8 kvs k=AD):A6 kvs k v=kvs++[(k,v)]:=by
 unfold A6;rw[aq7,h];exact if_neg ∅
def C5.isSome_eq{u}(r:C5 o u):o.isSome=u.isSome:=by
 cases o with
 |none=>cases u with
  |none=>rfl
  |some _=>exact(r).elim
 |some _=>cases u with
  |none=>exact(r).elim
  |some _=>rfl
theorem C5.getD{u}{d}{d'}(r:C5 o u)(a:i8 d d'):i8 (o.getD d) (u.getD d'):=by
 cases o with
 |none=>cases u with
  |none=>exact a
  |some _=>exact(r).elim
 |some _=>cases u with
  |none=>exact((r)).elim
  |some _=>exact r
def KV.val{kvs}{vs}(r:KV kvs vs)(k:κ):C5 (r8 kvs k) (Gw vs k):=by
 induction r with
 |nil=>exact Dk
 |@cons p q g a h t i=>
  obtain⟨d,j⟩:=h
  by_cases e:p.1=k
  ·have c:=d.symm.trans e;have b:Gw (q::a) k=AA q.2:=by simp[Gw,c]
   rwa[aq9 e,b]
  ·have c:¬q.1=k:=λz=>e (d.trans z);have b:Gw (q::a) k=Gw a k:=by simp[Gw,c]
   rwa[aq6 e,b]
theorem KV.any{kvs}{vs}(r:KV kvs vs)(k:κ):(kvs.any λkv=>AE (kv.1=k))=vs.any λkv=>AE (kv.1=k):=by
 induction r with
 |nil=>rfl
 |cons h t c=>simp_all
def KV.repl{kvs}{vs}(r:KV kvs vs)(k:κ)(c:i8 y u):
  KV (kvs.map λkv=>if kv.1=k then(kv.1,y)else kv) (vs.map λkv=>if kv.1=k then(kv.1,u)else kv):=by
 induction r with
 |nil=>exact .nil
 |@cons p q f d h t b=>
  rw[AZ];refine .cons ?_ b;obtain⟨i,g⟩:=h
  by_cases e:p.1=k
  ·simp_all
  ·simp_all
def KV.put{kvs}{vs}(r:KV kvs vs)(k:κ)(a:i8 y u):KV (A6 kvs k y) (stored vs k u):=by
 unfold A6 stored;rw[r.any k]
 by_cases e:(vs.any λkv=>AE (kv.1=k))=AC
 ·rw[if_pos e,if_pos e];exact r.repl k a
 ·rw[if_neg e,if_neg e];exact Paired.snoc r ⟨rfl,a⟩
theorem KV.length{a:List (κ×V)}{vs}(r:KV a vs):a.length=vs.length:=Paired.length r
end
def X9{w}{k}(r:i8 (kV k) u):(L7 P w).is k u=AC:=by
 cases k with
 |inl i=>obtain⟨t,e⟩:=r;subst e;exact bs8 P w i t
 |inr x=>obtain⟨t,e⟩:=r;subst e;exact bs6 P w x t
@[reducible]noncomputable def KT(H:Hp):List (Ak×V)->List (Ak×AH×AG)->Prop:=Paired λp q=>p.1=q.1/\G9 H p.1 q.2.1/\i8 p.2 q.2.2
def KT.val(r:KT H kvs xs)k:C5 (r8 kvs k) ((IE xs k).map (·.2)):=by
 induction r with
 |nil=>exact Dk
 |@cons p q g a h t i=>
  obtain⟨d,_,j⟩:=h
  by_cases e:p.1=k
  ·have c:=d.symm.trans e;have b:IE (q::a) k=AA q.2:=by simp[IE,c]
   rwa[aq9 e,b]
  ·have c:¬q.1=k:=λz=>e (d.trans z);have b:IE (q::a) k=IE a k:=by simp[IE,c]
   rwa[aq6 e,b]
def KT.repl(r:KT H kvs xs)k(c:i8 y u):
  KT H (kvs.map λkv=>if kv.1=k then(kv.1,y)else kv) (xs.map (putAt k u)):=by
 induction r with
 |nil=>exact .nil
 |@cons p q f d h t b=>
  rw[AZ];refine .cons ?_ b;obtain⟨j,i,g⟩:=h;unfold putAt
  by_cases e:p.1=k
  ·simp_all
  ·simp_all
def KT.put(r:KT H kvs xs)(k:Ak)(c:G9 H k b)(a:i8 y u):
  KT H (A6 kvs k y) (storedH xs k b u):=by
 have e:(kvs.any λkv=>AE (kv.1=k))=(IE xs k).isSome:=by
  rw[aq7,(r.val k).isSome_eq,Fe]
 unfold A6 storedH;rw[e]
 by_cases q:(IE xs k).isSome=AC
 ·rw[if_pos q,if_pos q];exact r.repl k a
 ·rw[if_neg q,if_neg q];exact Paired.snoc r ⟨rfl,c,a⟩
theorem KT.keeps(r:KT H kvs xs)(c:∀b a,H b=AA (.tup a)->H' b=AA (.tup a)):KT H' kvs xs:=
 Paired.mapP r λ_ _ z=>⟨z.1,z.2.1.keeps c,z.2.2⟩
section
variable {w:Ay} {h:BI} 
def bn6{u}(b:HOk P w H h)(e:Rd H a u):=e.ok b
def T6{kvs}(c:HOk P w H h)(e:Rd H a (.dK kvs)):kvs.length<=sizeLine/\(a==Cc)=AF/\∃b,KV kvs b/\h.DictOf (L7 P w) a b:=
 bn6 c e
def bm7{kvs}(b:HOk P w H h)(e:H a=AA (.dK kvs)):=T6 b (.inl e)
def by6(ok:HOk P w H h):∀(n:Nat)(d:Ak),d.depth<=n->∀{v:V}{u:AG},HRd H d v->i8 v u->∃f,Reads h u d f:=by
 have E:∀n,(∀d:Ak,d.depth<=n->∀{v:V}{u:AG},HRd H d v->i8 v u->∃f,Reads h u d f)->∀(a:List Ak),BZ a<=n->∀{c:List V}{s:List AG},O7 H a c->i6 c s->∃f,ReadsAll h s a f:=λn D a=>by
  induction a with
  |nil=>
   intro _ c s q r;obtain rfl:c=[]:=q;cases r;exact⟨_,.nil⟩
  |cons d a C=>
   intro j c s q r;obtain⟨v,vr,rfl,A,z⟩:=q;have hd':max d.depth (BZ a)<=n:=j;cases r with
   |cons r1 r2=>
    obtain⟨a1,x1⟩:=D d ⋯ A r1;obtain⟨a2,x2⟩:=C ⋯ z r2;exact⟨_,.cons x1 x2⟩
 intro n
 induction n with
 |zero=>
  intro d j v u q r;cases d with
  |int i=>obtain rfl:v=.int i:=q;obtain⟨t,rfl⟩:=(show ∃t,u=FE i t from r);exact⟨_,.int _ _⟩
  |str x=>obtain rfl:v=.str x:=q;obtain⟨t,rfl⟩:=(show ∃t,u=FF x t from r);exact⟨_,.str _ _⟩
  |tuple a=>rw[NK.depth_tup]at j;lia
  |none=>exact q.elim
  |bool _=>exact q.elim
  |list _=>exact q.elim
  |dict _=>exact q.elim
 |succ n D=>
  intro d j v u q r;cases d with
  |int i=>obtain rfl:v=.int i:=q;obtain⟨t,rfl⟩:=(show ∃t,u=FE i t from r);exact⟨_,.int _ _⟩
  |str x=>obtain rfl:v=.str x:=q;obtain⟨t,rfl⟩:=(show ∃t,u=FF x t from r);exact⟨_,.str _ _⟩
  |none=>exact q.elim
  |bool _=>exact q.elim
  |list _=>exact q.elim
  |dict _=>exact q.elim
  |tuple a=>
   rw[NK.depth_tup]at j;obtain⟨b,c,rfl,A,z⟩:=q;cases(show u=BC b from r);obtain⟨_,its,rv,o,h1,h2,_,m,h3⟩:=(show t0 P w H h b (.tup c) from ok b _ A);obtain⟨f,x⟩:=E n D a ⋯ z rv;exact⟨_,.tuple h1 h2 h3 (by simpa using x)⟩
def O0{k}(b:HOk P w H h)(e:G9 H k a):(NK.dataKind P w).is h k a:=⟨e.1,e.2.1,by6 b 7 k e.2.1 e.2.2 rfl⟩
def Q6(f:HOk P w H h)(e:Rd H a (.dT kvs)):kvs.length<=sizeLine/\(a==Cc)=AF /\
  ∃c,KT H kvs c/\h.DictOfH (NK.dataKind P w) a c:=by
 obtain⟨z,y,c,r,o,A,B,v,u,s,n,k⟩:=((bn6 f e));refine⟨z,y,c,r,o,A,B,v,u,s,n,λx b=>?_,k⟩;have d:∀{l}{m},KT H l m->∀x∈m,(NK.dataKind P w).is h x.1 x.2.1:=by
  intro l m q
  induction q with
  |nil=>simp_all
  |@cons p q D C g t j=>
   intro x b
   rcases AK.mp b with e|b
   ·subst e;exact O0 f ((g.1▸g.2.1))
   ·exact j x b
 exact d r x b
def c68(b:HOk P w H h)(e:H a=AA (.dT kvs)):=Q6 b (.inl e)
end
abbrev B4(H:Hp)(a:AH)(y:V)(r:Option V):Prop:=
 (∃kvs k,Rd H a (.dK kvs)/\y=kV k/\r=r8 kvs k)\/∃kvs k b,Rd H a (.dT kvs)/\y=.ref b/\G9 H k b/\r=r8 kvs k
abbrev ad8(H:Hp)(a:AH)(y v:V)(H':Hp):Prop:=
 (∃kvs k,H a=AA (.dK kvs)/\y=kV k/\kvs.length<sizeLine/\H'=upd H a (.dK (A6 kvs k v)))\/
 ∃kvs k b,H a=AA (.dT kvs)/\y=.ref b/\G9 H k b/\kvs.length<sizeLine/\H'=upd H a (.dT (A6 kvs k v))
theorem B4.k{kvs}{k}(e:H a=AA (.dK kvs)):B4 H a (kV k) (r8 kvs k):=.inl ⟨kvs,k,.inl e,rfl,rfl⟩
def B4.t{k}(e:H a=AA (.dT kvs))(c:G9 H k b):B4 H a (.ref b) (r8 kvs k):=.inr ⟨kvs,k,b,.inl e,rfl,c,rfl⟩
def ad8.t{k}{v}(e:H a=AA (.dT kvs))(d:G9 H k b)(c:kvs.length<sizeLine):
  ad8 H a (.ref b) v (upd H a (.dT (A6 kvs k v))):=.inr ⟨kvs,k,b,e,rfl,d,c,rfl⟩
section
variable {v:V} {r:AG} {E:AG->AJ->Prop}
def Inv.big(I:Inv X pins σ H s):Cc<s.heap.objs.size:=(have h:=(I.mod.glob.keeps I.bk).lt;Nat.lt_trans ∅ h)
def a89(C:A.units+20<Bv)(I:Inv X pins σ H s)(g:B4 H a y (AA v))(t:i8 y u)(h:∀f r,Inv X pins σ H r->i8 v f->Q f r):
  AR (model X.prog X.w) A (Em (.ref a) u) Q E s:=by
 rcases g with⟨i,k,e,n,l⟩|⟨i,k,b,e,n,G,l⟩
 ·subst n;obtain⟨z,F,B,d,q⟩:=T6 I.hok e;obtain⟨f,j,c⟩:=C5.some_of (v:=v) (o:=Gw B k) (by rw[l];exact d.val k);exact wpAny_getItem_of (X9 t) q.mapOf j (h f _ (I.tok _) c)
 ·subst n;cases(show u=BC b from t);obtain⟨z,F,x,d,q⟩:=Q6 I.hok e;obtain⟨f,j,c⟩:=C5.some_of (v:=v) (o:=(IE x k).map (·.2)) (by rw[l];exact d.val k);obtain⟨p,D,m⟩:=Br.mp j;refine wpAny_getItem_heap (NK.dataKind_room_in1 C) (O0 I.hok G) q D ?_;rw[m];exact h f _ (I.tok _) c
def bp3(p:A.units+20<Bv)(I:Inv X pins σ H s)(g:B4 H a y o)(n:i8 y u)(h:∀m,Inv X pins σ H m->Q (.bool o.isSome) m):
  AR (model X.prog X.w) A (By .In u (.ref a)) Q E s:=by
 rcases g with⟨d,k,e,i,l⟩|⟨d,k,b,e,i,r,l⟩
 ·subst i;obtain⟨z,f,v,c,j⟩:=T6 I.hok e;refine wpAny_in_of (X9 n) f j.mapOf ?_;rw[<-(c.val k).isSome_eq,<-l];exact h _ (I.tok _)
 ·subst i;cases(show u=BC b from n);obtain⟨z,f,t,c,j⟩:=Q6 I.hok e;refine wpAny_in_heap (NK.dataKind_room_in1 p) (O0 I.hok r) f j ?_;have q:=(c.val k).isSome_eq;rw[Fe]at q;rw[<-q,<-l];exact h _ (I.tok _)
def cg7(p:A.units+20<Bv)(I:Inv X pins σ H s)(g:B4 H a y o)(n:i8 y u)(h:∀m,Inv X pins σ H m->Q (.bool (!o.isSome)) m):
  AR (model X.prog X.w) A (By .NotIn u (.ref a)) Q E s:=by
 rcases g with⟨d,k,e,i,l⟩|⟨d,k,b,e,i,r,l⟩
 ·subst i;obtain⟨z,f,v,c,j⟩:=T6 I.hok e;refine LG (X9 n) f j.mapOf ?_;rw[<-(c.val k).isSome_eq,<-l];exact h _ (I.tok _)
 ·subst i;cases(show u=BC b from n);obtain⟨z,f,t,c,j⟩:=Q6 I.hok e;refine wpAny_notIn_heap (NK.dataKind_room_in1 p) (O0 I.hok r) f j ?_;have q:=(c.val k).isSome_eq;rw[Fe]at q;rw[<-q,<-l];exact h _ (I.tok _)
def as4{h'}{t'}{ob}(I:Inv X pins σ H s)(d:Mut (H a))(e:Bc a s.heap h')(f:∃q,h'.get? a=AA q)(c:t0 X.prog X.w (upd H a ob) h' a ob):
  Inv X pins σ (upd H a ob) {s with heap:=h',toks:=t'}:=
 I.write d (.inl rfl) (λb q hb=>(e.2 b hb).trans) f c
def bk9{w}{h'}{kvs}{vs}(z:kvs.length<=sizeLine)(c:(a==Cc)=AF)(b:KV kvs vs)(d:h'.DictOf (L7 P w) a vs):
  t0 P w H' h' a (.dK kvs):=⟨z,c,vs,b,d⟩
def bx7{Q:Unit->AJ->Prop}(G:A.units+20<Bv)(I:Inv X pins σ H s)(g:ad8 H a y v H')(x:i8 y u)(B:i8 v r)(h:∀t,Inv X pins σ H' t->Q () t):
  AR (model X.prog X.w) A (KB (.ref a) u r) Q E s:=by
 rcases g with⟨d,k,e,n,l,o⟩|⟨d,k,b,e,n,C,l,o⟩
 ·subst n o;obtain⟨z,m,F,c,p⟩:=bm7 I.hok e;have i:F.length<=sizeLine:=by rw[<-c.length];exact z
  have j:(A6 d k v).length<=sizeLine:=by have:=ao4 d k v;lia
  refine wpAny_setItem_pairs (hsz:=i) (X9 x) p λh' dd' hs=>h _ ?_;have J:∃q,h'.get? a=AA q:=let⟨q,_,_,f,_⟩:=dd';⟨q,f⟩;exact as4 I (by rw[e];exact Dk) hs J (bk9 j m (c.put k B) dd')
 ·subst n o;cases(show u=BC b from x);obtain⟨z,m,D,c,p⟩:=c68 I.hok e;have i:D.length<=sizeLine:=by rw[<-Paired.length c];exact z
  have j:(A6 d k v).length<=sizeLine:=by have:=ao4 d k v;lia
  refine wpAny_setItem_heap (hsz:=i) (NK.dataKind_room_in1 G) (O0 I.hok C) p λh' dd' hs=>h _ ?_;obtain⟨q,O,P,f,N,M,L,_,K⟩:=dd';refine as4 I (by rw[e];exact Dk) hs ⟨q,f⟩ ⟨j,m,_,(c.put k C B).keeps λc ys ec=>?_,q,O,P,f,N,M,L,K⟩;rw[j7 (c19 ec e (λz=>nomatch z))];exact ec
end
abbrev bo3(i:AS):Prop:=∀ov iv,subscripted i AF ov iv=operate [ov,iv] (Em ov iv)
def bd1{prog}{w}{E}{env}{value slice}{T id}
  (d:Ge (.type T) "__getitem__"=pure (AA (.builtin id))) (c:bo3 slice)
  (h:AR (model prog w) A (eval value env) (λo s₁=>AR (model prog w) A (eval slice env) (λi s₂=>s₂.TypeIs o T/\AR (model prog w) A (Em o i) Q E s₂) E s₁) E s) :
  AR (model prog w) A (eval (.Subscript value slice pos) env) Q E s:=by
 refine Jo (Bq h (λo s₁ h₁=>Bq h₁ (λi s₂ a=>?_) λ_ _ x=>x) λ_ _ x=>x);obtain⟨e,a⟩:=a;refine AB ?_;refine AB (Bm e d ?_);have b:AR (model prog w) A (subscripted slice AF o i) (λr=>AR (model prog w) A (LH value o r>>=λ_=>pure r) Q E) E s₂:=c o i▸Kt (Bq a (λr s₃ h₃=>AB (JP (AL h₃))) λ_ _ x=>x)
 first
  |exact AL (AB b)
  |grind
  |exact AB b
def az9(I:Inv X pins σ H s)(g:B4 H a y o):s.TypeIs (.ref a) "dict":=by
 rcases g with⟨c,k,e,_,_⟩|⟨c,k,b,e,_,_,_⟩
 ·obtain⟨_,_,h,_,d⟩:=T6 I.hok e;exact d.typeIs
 ·obtain⟨_,_,f,_,d⟩:=Q6 I.hok e;exact d.typeIs
abbrev c03(td ty:TE):TE:=λσ H Q=>td σ H λx H1=>ty σ H1 λy H2=>∃a v,x=.ref a/\B4 H2 a y (AA v)/\Q v H2
abbrev c83(td ty tv:TE):TS:=λD σ H=>tv σ H λv H1=>td σ H1 λx H2=>ty σ H2 λy H3=>∃a H4,x=.ref a/\ad8 H3 a y v H4/\D.nx σ H4
section
variable {o i e value:AS} {pos' tpos:Pos} {td ty tv:TE}
def cf0(j:X.A.units+20<Bv)(l:PE X o td)(hi:PE X i ty)(k:bo3 i):PE X (.Subscript o i pos) (c03 td ty):=by
 intro b s c H Q I h;refine bd1 PySem.F.slot_dict_getitem.lookup k (thn (l b s c H _ I h) λu s1⟨x,H1,I1,rx,q1⟩=>thn (hi b s1 c H1 _ I1 q1) λiv s2 z28=>?_);obtain⟨y,n,d,e,a,v,m,g,f⟩:=z28;subst m;obtain rfl:u=BC a:=rx;exact⟨az9 d g,a89 j d g e λw' s3 I3 rw'=>⟨v,n,I3,rw',f⟩⟩
def ch1(j:X.A.units+20<Bv)(l:PE X o td)(hi:PE X i ty)(f:PE X value tv)(k:Cw value (AA (.Subscript o i pos')) pos.line X.env=pure AF):
  PS X (.Assign [.Subscript o i pos'] value pos) (c83 td ty tv):=by
 intro b s c H D I h;refine wpAny_Assign_Subscript (thn (f b s c H _ I h) λr s1⟨v,H1,I1,rv,q1⟩=>thn (l b s1 c H1 _ I1 q1) λu s2⟨x,H2,I2,rx,q2⟩=>thn (hi b s2 c H2 _ I2 q2) λiv s3 z29=>?_) k;obtain⟨y,q,n,d,a,p,m,g,e⟩:=z29;subst m;obtain rfl:u=BC a:=rx;exact bx7 j n g d rv λs4 I4=>⟨c,p,I4,e⟩
end
def b58{w}(h:BI)(a:Cc<h.objs.size):t0 P w H (h.push {cls:=.type "dict",data:=.dict #[]}) h.objs.size (.dK []):=
 ⟨Bx _,beq_eq_false_iff_ne.mpr (BE (BR a)),[],.nil,LI h⟩
def b84{w}(h:BI)(a:Cc<h.objs.size):t0 P w H (h.push {cls:=.type "dict",data:=.dict #[]}) h.objs.size (.dT []):=
 ⟨Bx _,beq_eq_false_iff_ne.mpr (BE (BR a)),[],.nil,_,#[],0,Ai _ rfl,⟨rfl,rfl,rfl⟩,rfl,rfl,Jf⟩
abbrev ct7:TE:=λ_ H Q=>∀p,H p=AD->Q (.ref p) (upd H p (.dT []))
section
def b16:PE X (.Dict [] [] pos) ct7:=λpins s σ H Q I h=>
 wpAny_Dict_empty ⟨.ref s.heap.objs.size,_,I.laid (λ_ _=>AN _) (Ab _) (b84 s.heap I.big),rfl,h _ (I.hok.fresh (Ab _))⟩
end
abbrev ac1:List (TE×TE)->St->Hp->(List (V×V)->Hp->Prop)->Prop
 |[],_,H,Q=>Q [] H
 |(tk,tv)::r,σ,H,Q=>tk σ H λx H1=>tv σ H1 λy H2=>ac1 r σ H2 λps H3=>Q ((x,y)::ps) H3
@[reducible]noncomputable def VV:List (V×V)->List (AG×AG)->Prop:=Paired λp q=>i8 p.1 q.1/\i8 p.2 q.2
abbrev PPs(X:Cx)(pos:Pos)(keys:List (Option AS))(values:List AS)(trs:List (TE×TE)):Prop:=
 ∀(pins:List (AH×Obj))(s:AJ)(σ:St)(H:Hp)(Q:List (V×V)->Hp->Prop),Inv X pins σ H s->ac1 trs σ H Q ->
  AR (model X.prog X.w) X.A (evalPairs (pairTrees keys values X.env pos)) (λvs s'=>∃ps H',Inv X pins σ H' s'/\VV ps vs/\Q ps H') X.xe s
def cd2:PPs X pos [] [] []:=λpins s σ H Q I h=>pairTrees_nil_walk ⟨[],H,I,.nil,h⟩
def b83{k v}{ks}{vs}{tk tv}{trs}(c:PE X k tk)(a:PE X v tv)(b:PPs X pos ks vs trs):
  PPs X pos (AA k::ks) (v::vs) ((tk,tv)::trs):=λpins s σ H Q I h=>
 pairTrees_cons_walk (thn (c pins s σ H _ I h) λu s1⟨x,H1,I1,rx,q1⟩=>thn (a pins s1 σ H1 _ I1 q1) λw2 s2⟨y,H2,I2,ry,q2⟩=>
  thn (b pins s2 σ H2 _ I2 q2) λws s3⟨ps,H3,I3,rel,q3⟩=>⟨(x,y)::ps,H3,I3,.cons ⟨rx,ry⟩ rel,q3⟩)
abbrev M0(kvs more:List (Key×V)):List (Key×V):=more.foldl (λacc kv=>A6 acc kv.1 kv.2) kvs
def KV.merge:∀{a}{d}{b}{c},KV a d->KV b c->KV (M0 b a) (merged c d):=by
 intro a d b c r;induction r generalizing b c with
 |nil=>intro q;exact q
 |@cons p q k j h t i=>
  intro f;have e:KV (A6 b p.1 p.2) (stored c q.1 q.2):=by
   have:=f.put p.1 h.2;rwa[<-h.1]
  exact i e
theorem ay9:∀b a,(M0 a b).length<=a.length+b.length
 |[],a=>by show a.length<=a.length+0;lia
 |p::r,a=>by
  have d:=ay9 r (A6 a p.1 p.2);have c:=ao4 a p.1 p.2;show(M0 (A6 a p.1 p.2) r).length<=_;rw[AW];lia
theorem a59{P}{w}:∀{d}{f},VV (d.map λkv=>(kV kv.1,kv.2)) f->∃e,Carries (L7 P w) f e/\KV d e
 |[],_,r=>by cases r;exact⟨[],Dk,.nil⟩
 |p::d,_,r=>by
  cases r with
  |@cons a b k i h t=>
   obtain⟨e,c,q⟩:=a59 t;obtain⟨j,g⟩:=b;exact⟨(p.1,g)::e,⟨X9 h.1,rfl,c⟩,.cons ⟨rfl,h.2⟩ q⟩
abbrev c07(trs:List (TE×TE)):TE:=λσ H Q=>∀p,H p=AD->ac1 trs σ (upd H p (.dK [])) λps H2=>H2 p=AA (.dK [])/\∃kvs:List (Key×V),ps=kvs.map (λkv=>(kV kv.1,kv.2))/\kvs.length<=15/\Q (.ref p) (upd H2 p (.dK (M0 [] kvs)))
def bg3{a:List (Option AS)}{b:List AS}{d:List (TE×TE)}(h:PPs X pos a b d)(i:a.all (·.isSome)=AC)(y:a.length=b.length)(D:a≠[])
  (k:a.length<=15):PE X (.Dict a b pos) (c07 d):=by
 intro f s m H Q I q;have x:=I.hok.fresh (Ab s.heap.objs.size);have G:=I.laid (t':=s.toks) (λ_ _ q=>AN _ q) (Ab _) (b58 s.heap I.big);refine wpAny_Dict_walk (knd:=L7 X.prog X.w) i y D k (thn (h f _ m _ _ G (q _ x)) λws s2 z30=>?_);obtain⟨J,L,l,j,e,g,E,K,t⟩:=z30;subst E;obtain⟨o,c,p⟩:=a59 (w:=X.w) j;obtain⟨z,B,n,r,F⟩:=bm7 l.hok e;cases r;refine⟨o,c,F,λh' dd' hs=>⟨.ref s.heap.objs.size,_,?_,rfl,t⟩⟩;have u:(M0 [] g).length<=sizeLine:=by
  have C:=ay9 g [];rw[BK]at C;rw[Fp];lia
 have A:∃q,h'.get? s.heap.objs.size=AA q:=let⟨q,_,_,v,_⟩:=dd';⟨q,v⟩;exact as4 l (by rw[e];exact Dk) hs A (bk9 u B (p.merge .nil) dd')
structure M1(X:Cx)(o:AS)(m:Str)(apos:Pos)(e:AS)(cpos:Pos):Prop where
 base:Cy o m X.env (eval o X.env)=eval o X.env
 few:((CH cpos (An [e] X.env)).all (λx=>!x.1)&&(FA cpos (Da [] X.env)).all (λx=>x.1.isSome)
  &&AE (([e]:List AS).length+([]:List Hq).length+(if([]:List Hq).isEmpty then 0 else 1)<30))=AC
 line:(apos.endLine==cpos.line)=AC
 trees:CH cpos (An [e] X.env)=[(AF,eval e X.env)]
abbrev IsD(H:Hp)(a:AH):Prop:=(∃kvs,Rd H a (.dK kvs))\/∃kvs,Rd H a (.dT kvs)
def cq3(I:Inv X pins σ H s)(d:IsD H a):
  s.TypeIs (.ref a) "dict"/\(∀b,BC a=.ref b->∃c,s.heap.get? b=AA c/\c.dict=AD)/\(a==Cc)=AF:=by
 rcases d with⟨g,e⟩|⟨g,e⟩
 ·obtain⟨_,h,l,_,f⟩:=T6 I.hok e;refine⟨f.typeIs,λb q=>?_,h⟩;cases q;obtain⟨c,_,_,j,i,_⟩:=f;exact⟨c,j,i.2.1⟩
 ·obtain⟨_,h,k,_,f⟩:=Q6 I.hok e;refine⟨f.typeIs,λb q=>?_,h⟩;cases q;obtain⟨c,_,_,j,i,_⟩:=f;exact⟨c,j,i.2.1⟩
section
variable {d:V} {r:AG} {E:AG->AJ->Prop}
def cv7(r:A.units+20<Bv)(I:Inv X pins σ H s)(g:B4 H a y o)(p:i8 y u)(h:∀m n,Inv X pins σ H n->i8 (o.getD .non) m->Q m n):
  AR (model X.prog X.w) A (call (.builtin "dict.get") [.ref a,u]) Q E s:=by
 rcases g with⟨f,k,e,j,l⟩|⟨f,k,b,e,j,t,l⟩
 ·subst j;obtain⟨z,i,v,c,d⟩:=T6 I.hok e;refine call_meetsIn PySem.F.slot_dict_get d.typeIs PySem.F.entry_dict_get (PySem.F.args_dict_get_2 _ _) (meets_dict_get (L7 X.prog X.w) a (X9 p) i) ⟨_,d.mapOf,h _ _ (I.tok _) ?_⟩;rw[l];exact(c.val k).getD rfl
 ·subst j;cases(show u=BC b from p);obtain⟨z,i,q,c,d⟩:=Q6 I.hok e;refine call_meetsIn PySem.F.slot_dict_get d.typeIs PySem.F.entry_dict_get (PySem.F.args_dict_get_2 _ _) (meetsH_dict_get (NK.dataKind X.prog X.w) a b i) ⟨NK.dataKind_room_in1 r,k,q,O0 I.hok t,d,h _ _ (I.tok _) ?_⟩;rw[l];exact(c.val k).getD rfl
end
abbrev cx4(td ty:TE):TE:=λσ H Q=>td σ H λx H1=>∃a,x=.ref a/\IsD H1 a/\ty σ H1 λy H2=>∃o,B4 H2 a y o/\Q (o.getD .non) H2
section
variable {o e f:AS} {apos cpos:Pos} {td ty tx:TE}
def b51(n:X.A.units+20<Bv)(p:PE X o td)(q:PE X e ty)(m:M1 X o "get" apos e cpos):PE X (.Call (.Attribute o "get" apos) [e] [] cpos) (cx4 td ty):=by
 intro b s c H Q I h;refine KJ m.base m.few m.line PySem.F.plainAttrs_dict PySem.F.slot_dict_get PySem.F.type_dict_get (thn (p b s c H _ I h) λu s1 z31=>?_);obtain⟨x,t,f,k,a,r,d,l⟩:=z31;subst r;obtain rfl:u=BC a:=k;obtain⟨j,i,_⟩:=cq3 f d;refine⟨j,i,?_⟩;rw[m.trees];exact CD rfl (Cv (Cg (thn (q b s1 c t _ f l) λiv s2⟨y,H2,I2,ry,ov,g,q2⟩=>DQ (cv7 n I2 g ry λw' s3 I3 rw'=>⟨_,H2,I3,rw',q2⟩))))
end
end L2
namespace Att
open PySem PySem.W PySem.Calls PyProof.Rows
def br3{P}{h}:∀c(e),WellAll P h e (c.map Ku)->Iu e c:=by
 intro c
 induction c with
 |nil=>
  intro e w;cases w;exact .nil
 |cons n c g=>
  intro e w;cases w with
  |cons a b=>
   cases a;exact .cons _ _ (g _ b)
def bx6{l:OpenLaw}{n}(t:l.most=AA n){P}{h}{args}{vals}
  (b:l.row.toRowW.claim.pre args=AC) (g:WellAll P h vals args) :
  ∃a k c,vals=[BC a]/\args=[WData.list (c.map Ku)]/\h.get? a=AA {cls:=.type "list",data:=.seq k.toArray}/\Iu k c/\c.length<=n:=by
 have i:=(pre_splitW b).1;have u:=(pre_splitW b).2;obtain⟨d,r,rfl,y,x⟩:=hasAllW_cons i;obtain rfl:=hasAllW_nil x;obtain⟨z,rfl,w⟩:=hasW_list y;obtain⟨c,rfl⟩:=items_int w;have e:c.length<=n:=by
  have j:=by
   have j:=(holds_andW u).1;rwa[t]at j
  have v:=condW_of j (w_not (w_lt w_lit (w_len_list (w_arg rfl))));refine Nat.le_of_not_lt λq=>?_;first
   |(rw[decide_eq_true q']at v)
   |simp_all
 cases g with
 |cons q p=>
  cases p;cases q with
  |list s f=>exact⟨_,_,c,rfl,rfl,s,br3 c _ f,e⟩
def bz1(l:OpenLaw)args:l.row.toRowW.claim.post args (.bool AC) args=AC:=
 postW_of
  (rfl)
  (w_eq_bool (w_res rfl) w_lit) rfl
def attach_call{l:OpenLaw}{n}{q}{loose}{XP}{YP}{d}
  (K:l.most=AA n) (A:d.params.defaults=[])
  (p:∀(w:Ay)(c b:AJ)(t x:Str->Option AG)(m:AH)(o:Obj)(v u g:AG)(a:AH)(h:List AG)(s:List Int),
   Ground q loose [] XP w c t x b.heap->YP w b.heap ->
   b.heap.get? m=AA o->o.data=.func (docDef d.name d.params d.body d.scope v u g)->b.heap.CodeRec u d.name->t d.name=AA (.ref m) ->
   b.heap.get? a=AA {cls:=.type "list",data:=.seq h.toArray}->Iu h s->s.length<=n->b.gens=#[] ->
   EC (model l.prog w) Hs (.call (.ref m) ⟨[.ref a],[]⟩) (λr s'=>r=.ok (.ret (.bool AC))/\OldK b.heap s'.heap/\s'.os=b.os/\Go s'.gens) b) :
  WalkO q loose XP YP l.row.toRowW d [] (λf h=>PySem.call f h):=by
 intro w c b t x G Y m o v u g R H J N B E z M F C S i D I y L;obtain rfl:R=.none:=Dflts.none E A;obtain rfl:H=.none:=Dflts.noKw E;obtain⟨a,h,s,rfl,rfl,j,e,k⟩:=bx6 K i y;refine enter_call (Gu (p w c b t x m o v u g a h s G Y J (fd_plain N) B z j e k M) λr s' hq=>?_);obtain⟨rfl,Q,P,O⟩:=hq;exact⟨.inl ⟨.bool AC,.bool AC,[],rfl,λ_=>rfl,.bool AC,bz1 l _,λ_=>⟨Kj,λ_ hm=>(nomatch hm)⟩⟩,Q,P,O⟩
section
variable {prog:Al} {w:Ay} {A:BW} {E:AG->AJ->Prop} {s:AJ} {K:Frag}
abbrev dj1(h:BI)(L d:AH):List (AH×Obj):=(Dj h.objs.size).filterMap λa=>if a=L\/a=d then AD else(h.get? a).map λo=>(a,o)
end
end Att
namespace L2
open PySem PySem.Spec PyProof.Rows
theorem a75:∀{a}{b},Iu a b->i6 (b.map V.int) a
 |_,_,.nil=>.nil
 |_,_,.cons n t h=>.cons ⟨t,rfl⟩ (a75 h)
abbrev D3(s:Bf):Cz:=match s with
 |.FunctionDef _ a _ _ _ _ _ _ _ _=>a
 |_=>{posonlyargs:=[],args:=[],vararg:=AD,kwonlyargs:=[],kw_defaults:=[],kwarg:=AD,defaults:=[]}
abbrev B7(s:Bf):List Bf:=match s with
 |.FunctionDef _ _ b _ _ _ _ _ _ _=>b
 |_=>[]
abbrev o9(s:Bf):BS:=match s with
 |.FunctionDef _ _ _ _ _ _ sc _ _ _=>sc
 |_=>{kind:=.function,names:=[],isGenerator:=AF,isCoroutine:=AF}
@[reducible]noncomputable def CX0:CXT:=λ_ _ _ _ _ _=>False
@[reducible]noncomputable def E0:XK:=λ_ _ _=>False
def O4{X:Cx}:W7 CX0 X E0:=λ_ _ _ _ _ _ _ h=>h.elim
def a83{n:Nat}(h:n<=1000):n<sizeLine:=Iv h ∅
abbrev G8(H H':Hp):Prop:=∀b o,H b=AA o->H' b=AA o
def G8.refl(H:Hp):G8 H H:=λ_ _ h=>h
def G8.trans{H H1 H2}(a:G8 H H1)(b:G8 H1 H2):G8 H H2:=λc o h=>b c o (a c o h)
variable{s:AJ}{scope:BS}{env:Env}{cells:List (Str×AH)}{x:Str}{X:Cx}{Nc:List Str}{fr:List Nat}{C:AH}{fp:List AH}{pins:List (AH×Obj)}{σ:St}{H:Hp}
def bs2{prog:Al}{w:Ay}{A:BW}{R:IC->AJ->Prop}{f a d:AS}{e:List AS}{i:Pos}{k g:AG}(I:Nat->AJ->Prop)
  (b:∀n s,I n s->AR (model prog w) A (Ec k) (λr s₁=>match r with
   |none=>R (.ok .next) s₁
   |some v=>AR (model prog w) A (FQ a k v) (λ_ s₁'=>AR (model prog w) A (assign a env v) (λ_ s₂=>
     AR (model prog w) A (forIn e AC λc r=>if r=AC then do let ok <-Hy c env (eval c env);pure (Bs ok)else pure (Bs r)) (λok s₃=>
      if ok=AC then AR (model prog w) A (eval f env) (λx s₄=>
       AR (model prog w) A (call (.builtin "list.append") [g,x]) (λ_ s₅=>∃m,m<n/\I m s₅) (λ_ _=>False) s₄) (λ_ _=>False) s₃
      else ∃m,m<n/\I m s₃) (λ_ _=>False) s₂) (λ_ _=>False) s₁') (λ_ _=>False) s₁) (λ_ _=>False) s)
  (n:Nat) (h:I n s) :
  EC (model prog w) A (.compLoop (.ListComp f [⟨a,d,e,0⟩] scope i) 0 k g env) R s:=by
 refine codeAny_loop rfl I (λn s hI=>?_) n h;refine wpAny_noted ?_;rw[compTurn_list];refine AB (IQ (AB (Bq (b n s hI) (λr s₁ h₁=>?_) λ_ _ h'=>h'.elim)));cases r with
 |none=>exact AL h₁
 |some v=>
  refine AB (Bq h₁ (λ_ s₁' h₁'=>?_) λ_ _ h'=>h'.elim);refine AB (Bq h₁' (λ_ s₂ h₂=>AB (Bq h₂ (λok s₃ h₃=>?_) λ_ _ h'=>h'.elim)) λ_ _ h'=>h'.elim);cases ok with
  |false=>exact AL ⟨rfl,h₃⟩
  |true=>
   exact AB (AB (Bq h₃ (λx s₄ h₄=>AB (Bq h₄ (λ_ s₅ h₅=>AL (AL ⟨rfl,h₅⟩)) λ_ _ h'=>h'.elim)) λ_ _ h'=>h'.elim))
abbrev z9(cells:List (Str×AH)):List (Str×Fq)->List (Str×AH)->List (Str×AH)
 |[],acc=>acc
 |(n,k)::r,acc=>z9 cells r (if k==.free then(match cells.lookup n with|some a=>(n,a)::acc|none=>acc)else acc)
theorem ao9:∀(b:List (Str×Fq))(c:List (Str×AH)),(∀x∈b,x.2=.free->(env.cells.lookup x.1).isSome=AC) ->
  (forIn b c λx r=>match x with
   |(d,e)=>if(e==BF)=AC then do let a <-LJ env d;pure (Bs ((d,a)::r))else pure (Bs r):Sem (List (Str×AH)))=pure (z9 env.cells b c)
 |[],c,_=>rfl
 |(n,k)::r,c,h=>by
  have f:∀x∈r,x.2=.free->(env.cells.lookup x.1).isSome=AC:=λx hx=>h x (As _ hx);rw[Gf];cases hk:(k==BF)with
  |false=>
   simp only[hk,Bj,if_false,pure_bind];rw[ao9 r c f];simp only[z9,hk,Bj,if_false]
  |true=>
   have i:k=.free:=by simpa using hk
   obtain⟨a,g⟩:=Bh.mp (h (n,k) Bw i);have j:LJ env n=pure a:=by unfold LJ;rw[g]
   simp only[hk,if_true,j,pure_bind];rw[ao9 r _ f];simp only[z9,hk,if_true,g]
def ap4{env}(h:∀x∈scope.names,x.2=.free->(env.cells.lookup x.1).isSome=AC):IF scope env=pure (z9 env.cells scope.names []):=by
 have e:=ao9 scope.names [] h;show((forIn scope.names ([]) λx r=>match x with
   |(b,c)=>if(c==BF)=AC then do let a <-LJ env b;pure (Bs ((b,a)::r))else pure (Bs r):Sem (List (Str×AH)))>>=pure)=_
 rw[e];rfl
theorem a92:∀{b}{d}{x}{c},(x,c)∈z9 cells b d->(x,c)∈d\/cells.lookup x=AA c/\(x,BF)∈b
 |[],d,x,c,h=>.inl h
 |(n,k)::r,d,x,c,h=>by
  unfold z9 at h
  rcases a92 h with f|⟨f,i⟩
  ·cases hk:k==BF with
   |false=>simp_all
   |true=>
    have g:=by simpa using hk
    subst g;cases hc:cells.lookup n with
    |none=>rw[hc]at f;exact .inl f
    |some a=>
     rw[hc]at f
     rcases AK.mp f with e|e
     ·simp_all
     ·exact .inl e
  ·exact .inr ⟨f,As _ i⟩
theorem ba5:∀{a}{b}{x}{c},cells.lookup x=AA c->(x,BF)∈a\/(x,c)∈b->(x,c)∈z9 cells a b
 |[],b,x,c,_,h=>by
  rcases h with h|h
  ·cases h
  ·exact h
 |(n,k)::r,b,x,c,d,h=>by
  unfold z9;refine ba5 d ?_
  rcases h with h|h
  ·rcases AK.mp h with e|e
   ·simp_all
   ·exact .inl e
  ·refine .inr ?_
   split
   ·split
    ·exact As _ h
    ·exact h
   ·exact h
def ao7{b:Type}{l:List (Str×b)}{a}(h:l.lookup x=AA a):=PySem.mem_of_lookup h
theorem a02{c:Type}:∀{l:List (Str×c)}{x}{a},(x,a)∈l->∃b,l.lookup x=AA b
 |[],_,_,h=>by cases h
 |(y,b)::r,x,a,h=>by
  rw[EJ];cases e:x==y with
  |true=>exact⟨b,rfl⟩
  |false=>
   rcases AK.mp h with z|z
   ·grind
   ·exact a02 z
def O9{names}{c}(h:(z9 cells names []).lookup x=AA c):cells.lookup x=AA c/\(x,BF)∈names:=by
 rcases a92 (ao7 h)with z|z
 ·cases z
 ·exact z
def af8{names}{c}(h:cells.lookup x=AA c)(a:(x,BF)∈names):(z9 cells names []).lookup x=AA c:=by
 obtain⟨b,d⟩:=a02 (ba5 h (.inl a));have:=(O9 d).1;grind
structure CompScope(X:Cx)(scope:BS)(Nc:List Str)(fr:List Nat)(k:Nat):Prop where
 kind:scope.kind=.function
 nocell:∀y∈scope.names,y.2≠.cell
 names:∀y∈scope.names,y.2=.local->scope.names.lookup y.1=AA .local
 frees:∀y∈scope.names,y.2=.free->X.env.scope.names.lookup y.1=AA .cell\/X.env.scope.names.lookup y.1=AA .free
 uniq:∀y∈scope.names,y.2=.free->(y.1,NameKind.local)∉scope.names
 nd:Nc.Nodup
 len:Nc.length=fr.length+k
 fre:∀i x,Nc[i]?=AA x->i<fr.length->∃j,fr[i]?=AA j/\X.N[j]?=AA x/\(x,BF)∈scope.names
abbrev L8(fr:List Nat)(k:Nat)(σ:St):St:=(fr.map λj=>(σ[j]?).join)++BP k AD
def bs1(h:(relabel scope env).names.lookup x=AA .cell\/(relabel scope env).names.lookup x=AA .free)(g:∀y∈scope.names,y.2≠.cell):(x,BF)∈scope.names:=by
 have b:∀k,(relabel scope env).names.lookup x=AA k->k=.cell\/k=.free->(x,BF)∈scope.names:=by
  intro k e d;have c:=ao7 e;obtain⟨⟨n,f⟩,i,a⟩:=Aq.mp c;dsimp only at a
  split at a
  ·grind
  ·grind
 rcases h with h|h
 ·exact b _ h (.inl rfl)
 ·exact b _ h (.inr rfl)
def bs5:∀{k},(relabel scope env).names.lookup x=AA k->∃b,(x,b)∈scope.names/\(k=b\/b=.free/\k=.cell):=by
 intro k f;have e:=ao7 f;obtain⟨⟨n,b⟩,d,c⟩:=Aq.mp e;dsimp only at c
 split at c
 ·rename_i a;cases c;refine⟨_,d,.inr ⟨?_,rfl⟩⟩;simp at a;exact a.1.1
 ·cases c;exact⟨_,d,.inl rfl⟩
abbrev Cx.comp(X:Cx)(scope:BS)(Nc:List Str)(C:AH)(fp:List AH)(pins:List (AH×Obj))(s:AJ)(H:Hp):Cx:=
 {X with N:=Nc,s₀:=s,H₀:=H,env:=LK scope (z9 X.env.cells scope.names []) C X.env,outer:=X.stack,stack:=X.stack,ex:=fp,fn:=λ_=>AF,pn:=X.pn++pins,xe:=λ_ _=>False,ow:=λ_=>AF}
def Cx.comp_ok{k}(S:CompScope X scope Nc fr k)(I:Inv X pins σ H s)
  (j:s.heap.objs.size<=C) (g:∀b∈fp,D6 X pins H b) (f:∀b∈fp,b<s.heap.objs.size):(X.comp scope Nc C fp pins s H).Ok where
 mod:=I.ok.mod
 kind:=S.kind
 glob:=I.ok.glob
 blt:=I.ok.blt
 above:=j
 inj:=λx y c a d=>I.ok.inj x y c (O9 a).1 (O9 d).1
 has:=λx h=>by
  have i:=bs1 h S.nocell;have l:=S.frees _ i rfl;obtain⟨c,m⟩:=I.ok.has x l;exact⟨c,af8 m i⟩
 cab:=λx c h _=>h.elim (λz=>nomatch z) λz=>nomatch z
 hd:=I.ok.hd
 frames:=I.ok.frames
 stk:=.inl rfl
 exf:=λb hb=>⟨λz=>by have a:=f b hb;have d:=z;rw[d]at a;exact absurd a (LL.mpr j),λx c h=>(g b hb).2.2.2.2.1 x c (O9 h).1⟩
 bs:=I.bs
 bsz:=Bd I.ok.bsz I.sz
 noex:=λb o e hb=>by
  obtain⟨p,a,d,n,r,q⟩:=g b hb
  rcases n with z|z
  ·exact I.ok.noex b o e z
  ·have:=(I.ok.bs b o e).1;exact absurd (Ar (Ax this) z) (DL _)
 exfs:=λb hb z=>by
  obtain⟨p,a,d,_⟩:=g b hb
  rcases AK.mp (I.stkSub b z)with e|e
  ·exact a e
  ·exact d e
 funs:=I.stack
 frf:=I.stkFree
def bu4{k:Nat}{n:BI}{tk:Nat}(S:CompScope X scope Nc fr k)(I:Inv X pins σ H s)
  (E:s.heap.objs.size<=C) (Y:∀b∈fp,D6 X pins H b) (A:∀b∈fp,b<s.heap.objs.size) (g:∀b o,s.heap.get? b=AA o->n.get? b=AA o) (U:n.Ns C (λ_=>AD)) :
  Inv (X.comp scope Nc C fp pins s H) [] (L8 fr k σ) H {s with heap:=n,toks:=tk}:=by
 have B:H C=AD:=I.hok.fresh E;refine⟨Cx.comp_ok S I E Y A,rfl,I.bare,Un.kept g,⟨_,U,λi x v e1 e2 e3=>?_⟩,λx c e=>?_,B,λx c e=>(I.freeC x c (O9 e).1).imp id λz=>⟨rfl,z.2⟩,λp hp=>?_,I.hok.kept g,?_⟩
 ·have h:i<fr.length:=by
   unfold L8 at e2
   by_cases h:i<fr.length
   ·exact h
   ·rw[Au (by simpa using h),DX]at e2
    split at e2<;>cases e2
  obtain⟨j,W,Z,t⟩:=S.fre i x e1 h;have G:σ[j]?=AA (AA v):=by
   unfold L8 at e2;rw[Ag (by simpa using h),Aj,W]at e2;simp only[GZ,Cf]at e2;cases q:σ[j]? with
   |none=>rw[q]at e2;cases e2
   |some o=>rw[q]at e2;exact congrArg AA e2
  obtain⟨m,T,V⟩:=I.loc;have f:Vis X.env.scope x:=by
   rcases S.frees _ t rfl with z|z
   ·exact .inr (.inl z)
   ·exact .inr (.inr z)
  obtain⟨u,r,l⟩:=V j x v Z G f;refine⟨u,r,?_⟩
  rcases l with⟨K,_⟩|⟨K,c,R,Q⟩
  ·exfalso;have d:X.env.scope.names.lookup x=AA .local:=K
   rcases S.frees _ t rfl with z|z
   ·rw[d]at z;cases z
   ·rw[d]at z;cases z
  ·refine .inr ⟨?_,c,af8 R t,?_⟩
   ·have F:Vis (relabel scope X.env) x:=e3
    rcases F with z|z|z
    ·exfalso;obtain⟨k',n,a⟩:=bs5 z
     rcases a with a|a
     ·subst a;exact S.uniq _ t rfl n
     ·cases a.2
    ·exact .inl z
    ·exact .inr z
   ·obtain⟨o,y,D⟩:=Q;exact⟨o,g _ _ y,D⟩
 ·obtain⟨v,o,y,D⟩:=I.cell x c (O9 e).1;exact⟨v,o,g _ _ y,D⟩
 ·have w:p∈X.pn++pins:=by
   have:p∈(X.pn++pins)++[]:=hp;simpa using this
  obtain⟨J,P,O,N,M⟩:=I.pin p w;refine⟨g _ _ J,P,λz=>?_,λz=>?_,M⟩
  ·have a:p.1=C:=z;have L:=Ax J;rw[a]at L;exact absurd L (LL.mpr E)
  ·rcases AK.mp (I.stkSub p.1 z)with e|e
   ·exact O e
   ·exact N e
 ·unfold L8;rw[Ac,AT,Ez];exact S.len.symm
def bz4{pl}{c:St}{H'}{s'}(I:Inv X pins σ H s)(f:∀b∈fp,D6 X pins H b)
  (a:Inv (X.comp scope Nc C fp pins s H) pl c H' s'):Inv X pins σ H' s':=by
 obtain⟨l,g,d,t,e⟩:=s';obtain rfl:e=s.os:=a.os;exact I.call a.base a.hok a.bare λb hb=>by
  obtain⟨n,k,m,j,i,h⟩:=f b hb;exact⟨j,k,i,h⟩
def a00{d:St}{H0}{s0}{h'}(a:Inv X pins d H0 s0)hC(I:Inv X pins σ H s)hn
  (f:Bc C s.heap h'):=by
 refine I.turned (t':=s.toks) (λb o hb=>(f.2 b hb).trans) hn ?_ (.inr (Bd a.sz hC)) ?_ ?_
 ·exact λz=>absurd (Ar a.lt hC) (by simp_all)
 ·intro x c e z;obtain⟨v,q⟩:=a.cell x c e;exact absurd (Ar q.lt hC) (by simp_all)
 ·intro p g z;exact absurd (Ar (Ax (a.pin p g).1) hC) (by simp_all)
abbrev au9(fr:List Nat)(k:Nat)(wi:TI)(g:TG)(tc:TT)(te:TE)(fin:V->Hp->Prop):St->Hp->Prop:=λσ H=>
 wi σ H λJ H1=>∀p,H1 p=AD->∃W:Nat->Nat->St->Hp->Prop,(∃m,W 0 m (L8 fr k σ) (upd H1 p (.lst [])))/\∀i m σc H2,W i m σc H2 ->
  (J.stop i H2/\fin (.ref p) H2)\/(J.go i H2/\∃N:St->Hp->Prop,(∀σ' H',N σ' H'->∃m',m'<m/\W (i+1) m' σ' H') /\
   ∀x H3,J.yld i H2 x H3->g x σc H3 λσ4 H4=>tc σ4 H4 λb H5=>if b=AC then te σ4 H5 λv H6=>∃ys,H6 p=AA (.lst ys)/\ys.length<sizeLine/\N σ4 (upd H6 p (.lst (ys++[v])))else N σ4 H5)
abbrev PCs(X:Cx)(ifs:List AS)(t:TT):Prop:=
 ∀(pins:List (AH×Obj))(s:AJ)(σ:St)(H:Hp)(Q:Bool->Hp->Prop),Inv X pins σ H s->t σ H Q ->
  AR (model X.prog X.w) X.A (forIn ifs AC λc r=>if r=AC then do let ok <-Hy c X.env (eval c X.env);pure (Bs ok)else pure (Bs r)) (TP X pins σ Q) X.xe s
abbrev c82:TT:=λ_ H Q=>Q AC H
def cf3:PCs X [] c82:=λ_ _ _ H _ I h=>wpAny_tests_nil ⟨H,I,h⟩
def ch0{c}{t}(a:PT X c t):PCs X [c] t:=λpins s σ H Q I h=>wpAny_tests_one (a pins s σ H Q I h)
section
variable {k:Nat} {tg iter elt:AS} {ifs:List AS} {wi:TI} {g:TG} {tc:TT} {te:TE} {pos:Pos}
def a63(hc:X.calm=AC)(S:CompScope X a Nc fr k)(hg:∀C r f s H,PG (X.comp a Nc C r f s H) tg g)(ht:∀C r f s H,PCs (X.comp a Nc C r f s H) ifs tc)(he:∀C r f s H,PE (X.comp a Nc C r f s H) elt te)
  {f:List (AH×Obj)} {σ:St} {j:AJ} {G:Hp} {it:AH} {r:List AH} {Y:Nat->BI->Prop} {J:It} {fin:V->Hp->Prop} {RR:AG->AH->IC->AJ->Prop} {E:AG->AJ->Prop}
  (I2:Inv X f σ G j) (T:Turn X.prog X.w X.K tg J r it Y) (st2:Y 0 j.heap) (f2:∀b∈r,D6 X f G b)
  (h:∀p,G p=AD->∃W:Nat->Nat->St->Hp->Prop,(∃m,W 0 m (L8 fr k σ) (upd G p (.lst [])))/\∀i m σc G,W i m σc G ->
   (J.stop i G/\fin (.ref p) G)\/(J.go i G/\∃N:St->Hp->Prop,(∀t F,N t F->∃P,P<m/\W (i+1) P t F) /\
    ∀x H3,J.yld i G x H3->g x σc H3 λσ4 H4=>tc σ4 H4 λb H5=>if b=AC then te σ4 H5 λv H6=>∃ys,H6 p=AA (.lst ys)/\ys.length<sizeLine/\N σ4 (upd H6 p (.lst (ys++[v])))else N σ4 H5))
  (hRR:∀(D C:AH)(F:Hp)(s':AJ)(s3:AJ)(H3:Hp)(P:Str->Option AG),Inv X f σ H3 s3->s3.heap.objs.size<=C->Inv X f σ F s'->F C=AD->s'.heap.Ns C P->fin (.ref D) F->RR (.ref D) C (.ok .next) s') :
  AR (model X.prog X.w) X.A (newList []) (λacc B=>AR (model X.prog X.w) X.A (LM a X.env.globals (z9 X.env.cells a.names []) [] X.env.qual AD .none (AA X.env)) (λcenv s₄=>
   EC (model X.prog X.w) X.A (.compStart (.ListComp elt [⟨tg,iter,ifs,0⟩] a pos) 0 (.ref it) acc {cenv with scope:=relabel a X.env}) (RR acc cenv.locals) s₄) E B) E j:=by
 have hp:=I2.hok.fresh (Ab j.heap.objs.size);obtain⟨W,⟨m0,w0⟩,turn⟩:=h j.heap.objs.size hp;refine Ba (JQ S.nocell (by intro y hy;simp at hy) (λh₁ hns₁ hsb₁=>?_) S.kind);have I3:Inv X f σ (upd G j.heap.objs.size (.lst [])) {j with heap:=j.heap.push {cls:=.type "list",dict:=AD,data:=.seq ([]:List AG).toArray}}:=
  I2.laid (t':=j.toks) (λb u e=>AN _ e) (Ab _) ⟨Bx _,[],0,.nil,Ai _ rfl⟩
 have U:∀b∈r,b<j.heap.objs.size:=λb hb=>by
  obtain⟨o,e,_⟩:=T.obj _ _ st2 b hb;exact Ax e
 have f3:∀b∈r,D6 X f (upd G j.heap.objs.size (.lst [])) b:=λb hb=>by
  obtain⟨q0,q⟩:=f2 b hb;exact⟨by rw[j7 (BR (U b hb))];exact q0,q⟩
 generalize hH3:(j.heap.push {cls:=.type "list",dict:=AD,data:=.seq ([]:List AG).toArray}:BI)=g3 at I3 hns₁ hsb₁ ⊢;have hsz:g3.objs.size=j.heap.objs.size+1:=by rw[<-hH3,Ci]
 have R:∀b∈r,b<g3.objs.size:=λb hb=>by rw[hsz];exact GN (U b hb)
 have k3:∀b o,g3.get? b=AA o->h₁.get? b=AA o:=λb o e=>hsb₁.extBut b o (BR (Ax e)) (AN _ e);have st3:Y 0 g3:=T.keep _ _ _ st2 λb _ o e=>by rw[<-hH3];exact AN _ e
 have st4:Y 0 h₁:=T.keep _ _ _ st3 λb _ o e=>k3 b o e;have I4:Inv (X.comp a Nc g3.objs.size r f {j with heap:=g3} (upd G j.heap.objs.size (.lst []))) [] (L8 fr k σ) (upd G j.heap.objs.size (.lst [])) {j with heap:=h₁,toks:=j.toks+([]:List (Str×AG)).length}:=
  bu4 (s:={j with heap:=g3}) S I3 (Ab _) f3 R k3 hns₁
 generalize l:X.comp a Nc g3.objs.size r f {j with heap:=g3} (upd G j.heap.objs.size (.lst []))=Xc at I4;have eA:Xc.A=X.A:=by rw[<-l];rfl
 have eP:Xc.prog=X.prog:=by rw[<-l];rfl
 have ew:Xc.w=X.w:=by rw[<-l];rfl
 have eK:Xc.K=X.K:=by rw[<-l];rfl
 have ec:Xc.calm=AC:=by rw[<-l];exact hc
 have ee:Xc.env=LK a (z9 X.env.cells a.names []) g3.objs.size X.env:=by rw[<-l];rfl
 have ex:Xc.xe=λ_ _=>False:=by rw[<-l];rfl
 have T':Turn Xc.prog Xc.w Xc.K tg J r it Y:=by rw[eP,ew,eK];exact T
 have L:∀{F:Hp},(∀b∈r,F b=AD)->∀b∈r,D6 Xc [] F b:=λhn b hb=>by
  obtain⟨q0,q1,q2,q3,q4,q5⟩:=f3 b hb;subst l;refine⟨hn b hb,BR (R b hb),λz=>?_,.inl hb,λx c e=>q4 x c (O9 e).1,λp hp=>q5 p ?_⟩
  ·rcases AK.mp (I3.stkSub b z)with e|e
   ·exact q1 e
   ·exact q2 e
  ·have:p∈(X.pn++f)++[]:=hp;simpa using this
 have Q:∀B:AJ,B={j with heap:=h₁,toks:=j.toks+([]:List (Str×AG)).length} ->
   EC (model X.prog X.w) X.A (.compLoop (.ListComp elt [⟨tg,iter,ifs,0⟩] a pos) 0 (.ref it) (.ref j.heap.objs.size) (LK a (z9 X.env.cells a.names []) g3.objs.size X.env)) (RR (.ref j.heap.objs.size) g3.objs.size) B:=by
  rintro B rfl;rw[<-ee,<-eA,<-eP,<-ew];refine bs2 (λn s'=>∃i t F,Inv Xc [] t F s'/\Y i s'.heap/\(∀b∈r,F b=AD)/\W i n t F) ?_ m0 ⟨0,_,_,I4,st4,λb hb=>(f3 b hb).1,w0⟩;rintro n s5 ⟨i,σ5,H5,I5,st5,fr5,w5⟩
  rcases turn i n σ5 H5 w5 with⟨stop,qn⟩|⟨go,N,hN,step⟩
  ·refine thn (T'.done Xc rfl rfl rfl ec i [] s5 σ5 H5 _ I5 (L fr5) st5 stop) λr s6⟨hr,I6⟩=>?_;subst hr;subst l;obtain⟨P,hm,_⟩:=id I6.loc;exact hRR _ _ H5 s6 _ _ P I3 (Ab _) (bz4 I3 f3 I6) I6.free hm qn
  ·refine thn (T'.item Xc rfl rfl rfl ec i [] s5 σ5 H5 _ I5 (L fr5) st5 go) λr s6⟨u,hr,h6⟩=>?_;subst hr;refine thn h6 λ_ s7 z32=>?_;obtain⟨x,H7,I7,r7,y7,Z,fr7⟩:=z32;have I7':=I7.pinned (L fr7) (T.obj _ _ Z);have hgX:PG Xc tg g:=by rw[<-l];exact hg _ _ _ _ _
   have htX:PCs Xc ifs tc:=by rw[<-l];exact ht _ _ _ _ _
   have heX:PE Xc elt te:=by rw[<-l];exact he _ _ _ _ _
   have M:∀{s9:AJ}{I:St}{H9:Hp},Inv Xc ([]++ac0 r s7.heap) I H9 s9->N I H9->∃m,m<n/\∃i t F,Inv Xc [] t F s9/\Y i s9.heap/\(∀b∈r,F b=AD)/\W i m t F:=λ{s9 I H9}I9 n9=>by
    obtain⟨P,hm,w9⟩:=hN I H9 n9;refine⟨P,hm,i+1,I,H9,I9.unpinned,T.keep _ _ _ Z λb hb o e=>(I9.pin (b,o) (BQ _ (BQ _ (af0 hb e)))).1,λb hb=>?_,w9⟩;obtain⟨o,e,d⟩:=T.obj _ _ Z b hb;exact(I9.pin (b,o) (BQ _ (BQ _ (af0 hb e)))).2.1
   have hgw:=hgX _ s7 σ5 H7 x u _ I7' r7 (step x H7 y7);rw[ex]at hgw;refine thn hgw λ_ s8 z33=>?_;obtain⟨O,H8,I8,q8⟩:=z33;have htw:=htX _ s8 O H8 _ I8 q8;rw[ex]at htw;refine thn htw λok s9⟨H9,I9,q9⟩=>?_;cases ok with
   |false=>
    rw[if_neg AI]at q9 ⊢;exact M I9 q9
   |true=>
    rw[if_pos rfl]at q9 ⊢;have hew:=heX _ s9 O H9 _ I9 q9;rw[ex]at hew;refine thn hew λxv s10 z34=>?_;obtain⟨v,H10,I10,r10,ys,hys,hlen,n10⟩:=z34;have hap:=a77 (X:=Xc) _ s10 O H10 (.ref j.heap.objs.size) [v] (.ref j.heap.objs.size) [xv] (λ_ H11=>N O H11) I10 rfl (.cons r10 .nil) ⟨_,ys,v,rfl,rfl,hys,hlen,n10⟩;rw[ex]at hap;exact thn hap λ_ s11⟨_,H11,I11,_,n11⟩=>M I11 n11
 exact codeAny_compStart_list (Q _ rfl) (T.self _ 0 _ _ _ st4 (Q _ rfl))
def a66(S:CompScope X scope Nc fr k)(I:Inv X pins σ H s):∀x∈scope.names,x.2=.free->(X.env.cells.lookup x.1).isSome=AC:=λx hx hf=>by
 obtain⟨c,e⟩:=I.ok.has x.1 (S.frees x hx hf);rw[e];rfl
def ce8(p:X.calm=AC)(S:CompScope X scope Nc fr k)(hi:PI X tg iter wi)(n:∀C b a s H,PG (X.comp scope Nc C b a s H) tg g)(j:∀C b a s H,PCs (X.comp scope Nc C b a s H) ifs tc)(o:∀C b a s H,PE (X.comp scope Nc C b a s H) elt te)
  (l:∀x,Dn iter X.env x=pure x:=by intro _;rfl):PE X (.ListComp elt [⟨tg,iter,ifs,0⟩] scope pos) (λσ H Q=>au9 fr k wi g tc te Q σ H):=by
 intro a s σ H Q I h;rw[eval_ListComp];refine IT (use:=AD) (cl:=z9 X.env.cells scope.names []) rfl l (ap4 (a66 S I)) S.kind S.names ?_;refine thn (hi a s σ H _ I h) λxv s1 h1=>thn h1 λitv s2 h2=>?_;obtain⟨G,b,B,J,L,e,v,T,d,t,h⟩:=h2;subst e;refine a63 (RR:=λacc C=>compPost (model X.prog X.w) X.A X.xe AD (EP X a σ Q) acc C) p S n j o v T d t h ?_;intro D C z F E K i u r y m f q;exact⟨i,f,λh' sb=>⟨.ref D,z,a00 u r y m sb,rfl,q⟩⟩
def bv3{i:Nat}{y:Str}{py b:Pos}(hc:X.calm=AC)(hN:X.N.Nodup)(F:X.N[i]?=AA y)(W:Loc X.env.scope y)(G:X.fn y=AC\/X.env.scope.names.lookup y=AA .local)
  (S:CompScope X scope Nc fr k) (hi:PI X tg iter wi) (hg:∀C j a s H,PG (X.comp scope Nc C j a s H) tg g) (Y:∀C j a s H,PCs (X.comp scope Nc C j a s H) ifs tc) (he:∀C j a s H,PE (X.comp scope Nc C j a s H) elt te)
  (u:Cw (.ListComp elt [⟨tg,iter,ifs,0⟩] scope pos) (AA (.Name y py)) b.line X.env=pure AC)
  (Z:∀x,Dn iter X.env x=pure x:=by intro _;rfl):PS X (.Assign [.Name y py] (.ListComp elt [⟨tg,iter,ifs,0⟩] scope pos) b) (λD f H=>au9 fr k wi g tc te (λv l=>D.nx (f.set i (AA v)) l) f H):=by
 intro a s f H D I h;rw[exec_Assign_Name_used _ _ _ _ u];refine AB (IQ (AB ?_));show AR _ X.A (do let _ <-comprehension (.ListComp elt [⟨tg,iter,ifs,0⟩] scope pos) scope X.env _ (newList []) AF (eval iter X.env) (AA (assign (.Name y py) X.env))) _ _ s;refine AB (Bq (IT (use:=AA (assign (.Name y py) X.env)) (cl:=z9 X.env.cells scope.names []) (Q:=λ_ c=>SP X a D .next c) rfl Z (ap4 (a66 S I)) S.kind S.names ?_) (λ_ c hq=>AL (AL hq)) λ_ _ e=>e);refine thn (hi a s f H _ I h) λxv s1 h1=>thn h1 λitv s2 h2=>?_;obtain⟨it,j,tn,J,H2,e,I2,T,o,f2,h⟩:=h2;subst e;refine a63 (RR:=λacc C=>compPost (model X.prog X.w) X.A X.xe (AA (assign (.Name y py) X.env)) (λ_ c=>SP X a D .next c) acc C) (fin:=λv l=>D.nx (f.set i (AA v)) l) hc S hg Y he I2 T o f2 h ?_;intro P C l c s3 H3 V L K O hn E q;show AR _ X.A (assign (.Name y py) X.env (.ref P)) _ _ c;obtain⟨n,es,ep,B,m,d⟩:=id E;have t:C≠X.env.locals:=λz=>absurd (Ar L.lt K) (by rw[z];exact DL _);have r:C∉X.fs:=L.nofs K;have M:Inv X (a++[(C,n)]) f l c:=O.pins_of λp hp=>by
  rcases Ap.mp hp with z|z
  ·exact O.pin p (BQ _ z)
  ·have e:p=(C,n):=by simpa using z
   subst e;exact⟨B,hn,t,r,λv z=>by rw[m]at z;cases z⟩
 refine KC (af6 M hN F W (v:=.ref P) rfl (λs'' J''=>?_) G);obtain⟨U,R,_⟩:=J''.pin (C,n) ∎;refine⟨V,⟨n,es,ep,U,m,d⟩,λh' sb=>⟨_,l,a00 L K J''.unpinned R sb,q⟩⟩
end
end L2
namespace PySem
section
variable {prog:Al} {w:Ay} {A:BW} {E:AG->AJ->Prop} {s:AJ}
def bq3{it l}{i}{items}{x}{Q}(a:s.heap.IsTupleIter it l i)
  (h:s.heap.IsTuple l items) (g:items[i]?=AA x)
  (k:∀f,f.IsTupleIter it l (i+1)->Bc it s.heap f->Q x {s with heap:=f}) :
  AR (model prog w) A (Af (.ref it)) Q E s:=by
 obtain⟨o,c,j,b⟩:=id a;obtain⟨m,d,_,n,e⟩:=h;refine AB (BO a.typeIs DE
  (BM DE a.typeIs HY ?_ (HP _)))
 show AR _ _ (field (.ref it) 0 >>= _) _ _ s;refine AB (Aw c b rfl ?_);refine AB (Aw c b rfl ?_);refine AB (Bk d e ?_);simp only [Ct,g];exact AB (Cj c b ∎ (AL ⟨x,rfl,AL (k _ ⟨_,CP _ c (Co (Bb b _)),(GO ..).trans j,by
  rw[Bb b];simp[Ch]⟩ (Bl ..))⟩))
def bq4{c l:AH}{i:Nat}{items}{Q:AG->AJ->Prop}(k:A.handled=AD)
  (b:s.heap.IsTupleIter c l i) (p:s.heap.IsTuple l items) (n:items[i]?=AD)
  (q:∀j e,FG c s.heap j->(∃o,j.get? e=AA o/\o.cls=.type "StopIteration")->E (.ref e) {s with heap:=j}) :
  AR (model prog w) A (Af (.ref c)) Q E s:=by
 obtain⟨o,f,u,h⟩:=id b;obtain⟨r,d,_,t,g⟩:=p;unfold Af;refine AB (BO (name:=AV "__next__") b.typeIs DE
  (BM DE b.typeIs HY ?_ (HP _)))
 show AR _ _ (field (.ref c) 0>>=_) _ _ s;refine AB (Aw f h (x:=.ref l) rfl ?_);refine AB (Aw f h (x:=.int i 0) rfl ?_);refine AB (Bk d g ?_);simp only[Ct,n];refine AB (Eb (AB (Cj f h ∎ ?_)));refine AB ?_;simp only[Iw,LN];refine AB (Ba ?_ (by size_fits));refine AB (m:=Dq _ _) (Db (a:=Bz) (by first|rfl|(simp only[Dq];rfl)) ?_);refine Ba ?_ (by size_fits);simp only[LO];refine AB (IU ?_)
 first|rw[show A.in1.handled=AD from k]|rw[k]
 refine AB (AL (JR ?_));exact q _ _ (((Bl ..).extBut.push _).push _) ⟨_,Ai _ rfl,rfl⟩
end
end PySem
namespace L2
open PySem PySem.Spec PyProof.Rows
section
variable {X:Cx} {pins:List (AH×Obj)} {σ:St} {H:Hp} {s:AJ} {h':BI}
def Inv.turnedNew{t':Nat}{ch:List AH}{o:HO}(I:Inv X pins σ H s)(a:∀b∈ch,D6 X pins H b)(k:∀b u,b∉ch->s.heap.get? b=AA u->h'.get? b=AA u)(D:∀b∈ch,∃u,h'.get? b=AA u)
  (h:t0 X.prog X.w (upd H s.heap.objs.size o) h' s.heap.objs.size o):Inv X pins σ (upd H s.heap.objs.size o) {s with heap:=h',toks:=t'}:=by
 have f:H s.heap.objs.size=AD:=I.hok.fresh (Ab _);have i:∀b u,s.heap.get? b=AA u->b≠s.heap.objs.size:=λb u e=>BR (Ax e);have d:∀b u,H b=AA u->b∉ch:=λb u e z=>by rw[(a b z).1]at e;cases e
 refine I.step (g':=s.gens) (d':=s.drawn) (ch:=ch) (λb g=>?_) (λb u _ _ hc e _=>k b u hc e) (λb u _ _ hc e _=>⟨u.slots,k b u hc e⟩) (λb u _ e n=>by rw[j7 (i b u e)];exact n)
  (λb u hc e=>⟨u,k b u hc e⟩) (λb xs e=>by rw[j7 (z5 e f)];exact e) (λb u v e=>by rw[j7 (z5 e f)];exact e) (λb ps e=>⟨#[],by rw[j7 (z5 e f),e];simp⟩) (λm hm=>?_) (λb u e=>?_) I.bare
 ·obtain⟨C,x,B,t,p,m⟩:=a b g;exact⟨t,x,p,m⟩
 ·obtain⟨j,y,A,l,r⟩:=hm;exact⟨j,y,A,k _ j (λz=>(a _ z).2.1 rfl) l,r⟩
 ·by_cases g:b=s.heap.objs.size
  ·subst g;rw[p8]at e;cases e;exact h
  ·rw[j7 g]at e;refine(I.hok b u e).stay (λc v hc q=>k c v ?_ q) (λc q=>by rw[j7 (z5 q f)];exact q) λc xs q=>by rw[j7 (z5 q f)];exact q
   rcases hc with z|z
   ·rw[z];exact d b u e
   ·exact d c _ z
def Inv.turnedAll{t'}{ch:List AH}(I:Inv X pins σ H s)(a:∀b∈ch,D6 X pins H b)(k:∀b u,b∉ch->s.heap.get? b=AA u->h'.get? b=AA u):Inv X pins σ H {s with heap:=h',toks:=t'}:=by
 have d:∀b u,H b=AA u->b∉ch:=λb u e z=>by rw[(a b z).1]at e;cases e
 refine I.step (λb hb=>?_) (λb u _ _ hc e _=>k b u hc e) (λb u _ _ hc e _=>⟨u.slots,k b u hc e⟩) (λb u _ e n=>n)
  (λb u hc e=>⟨u,k b u hc e⟩) (λb xs e=>e) (λb u v e=>e) (λb ps e=>⟨#[],by rw[e];simp⟩) (λm hm=>?_) (λb u e=>?_) I.bare
 ·obtain⟨t,l,p,j,i,h⟩:=a b hb;exact⟨j,l,i,h⟩
 ·obtain⟨f,m,o,g,r⟩:=hm;exact⟨f,m,o,k _ f (λz=>(a _ z).2.1 rfl) g,r⟩
 ·refine(I.hok b u e).stay (λc v hc=>k c v ?_) (λc q=>q) λc xs q=>q
  rcases hc with z|z
  ·rw[z];exact d b u e
  ·exact d c _ z
end
abbrev Ite(K:AQ)(sq:Hp->List V->Prop):It:=
 ⟨λi H=>∃xs x,sq H xs/\xs[i]?=AA x,λi H x H'=>∃t v,H t=AD/\x=.ref t/\H'=upd H t (.tup [.int i,v])/\∀xs,sq H xs->xs[i]?=AA v,λi H=>∃xs,sq H xs/\xs.length=i⟩
def by5{P:Al}{w:Ay}{K:AQ}{R:List AS}{k0:Nat}{tp:Pos}{sq:Hp->List V->Prop}{e c:AH}{pit:Nat->BI->Prop}{bad:AH->Prop}
  (J:e≠c) (l:∀i h,pit i h->∃o,h.get? c=AA o/\∀v,o.data≠.cell v) (m:∀i h h',pit i h->(∀o,h.get? c=AA o->h'.get? c=AA o)->pit i h')
  (dr:∀(X:Cx),X.prog=P->X.w=w->X.K=K->X.calm=AC->∀(i:Nat)(a:List (AH×Obj))(s:AJ)(p:St)(H:Hp)(k:List V),Inv X a p H s->D6 X a H e->D6 X a H c->pit i s.heap->(∃d,LP s.heap e c i d)->sq H k ->
   ∃(f:List AG)(fp:List AH)(Pv:Nat->AG->Prop)(St:Nat->BI->Prop),i6 k f/\k.length<=sizeLine/\Draws P w X.A.in1 c fp f.length Pv St/\e∉fp/\St i s.heap/\(∀j v,Pv j v->f[j]?=AA v)/\∀j h,St j h->pit j h)
  (inj:∀(X:Cx)(a:List (AH×Obj))(s:AJ)(p:St)(H:Hp)(k ys:List V),X.K=K->Inv X a p H s->sq H k->sq H ys->k=ys) :
  Turn P w K (.Tuple R k0 tp) (Ite K sq) [e,c] e (λi h=>(∃d,LP h e c i d)/\pit i h) where
 mem:=by simp
 obj:=λi h g b hb=>by
  rcases AK.mp hb with z|z
  ·subst z;obtain⟨⟨d,n⟩,_⟩:=g;exact⟨_,n,λv z=>by cases z⟩
  ·have F:b=c:=by simpa using z
   subst F;exact l i h g.2
 keep:=λi h h' g U=>by
  obtain⟨⟨d,n⟩,Y⟩:=g;exact⟨⟨d,U e ∎ _ n⟩,m i h h' Y λo q=>U c ∎ o q⟩
 item:=by
  intro X hP hw Z hc i a s p H E I B g hg;obtain⟨k,x,W,G⟩:=hg;obtain⟨f,fp,Pv,St,T,hz,D,L,r,N,M⟩:=dr X hP hw Z hc i a s p H k I (B e ∎) (B c ∎) g.2 g.1 W;obtain⟨⟨d,n⟩,Y⟩:=g;have hi:i<f.length:=by
   rw[<-T.length];exact(AX.mp G).1
  refine wpAny_pyNext_enum_itemD D n r hi J L λy h1 tk hPy ho hst' hT hsz hk=>?_;obtain⟨u,hu,ru⟩:=T.get G;have ey:y=u:=by
   have q:=N i y hPy;rw[hu]at q;exact(BA q).symm
  subst ey;refine⟨_,rfl,?_⟩;have hT':H s.heap.objs.size=AD:=I.hok.fresh (Ab _);have S:e<s.heap.objs.size:=Ax n;refine wpAny_letOwnedTupleGo_enum ho λh2 he2 hs2=>?_;have q2:Bc e h1 h2:=hs2;have U:∀b u,b∉[e,c]->s.heap.get? b=AA u->h2.get? b=AA u:=λb u hb q=>by
   have O:b≠e:=λz=>hb (by simp[z]);have h2':b≠c:=λz=>hb (by simp[z]);exact(q2.2 b O).trans (hk b u O h2' q)
  have hT2:h2.get? s.heap.objs.size=AA {cls:=.type "tuple",data:=.seq #[.int i tk,y]}:=(q2.2 _ (Ex S)).trans hT;have t:pit (i+1) h2:=m _ _ _ (M _ _ hst') λo q=>(q2.2 c (BE J)).trans q;have I1:Inv X a p (upd H s.heap.objs.size (.tup [.int i,x])) {s with heap:=h2,toks:=tk+1}:=by
   refine I.turnedNew (ch:=[e,c]) B U (λb hb=>?_) ?_
   ·rcases AK.mp hb with z|z
    ·exact⟨_,by rw[z];exact he2⟩
    ·have F:b=c:=by simpa using z
     subst F;obtain⟨o,q,_⟩:=l _ _ t;exact⟨o,q⟩
   ·exact⟨by show 2<=sizeLine;decide,[.int i tk,y],.cons ⟨_,rfl⟩ (.cons ru .nil),⟨_,hT2,rfl,rfl,_,rfl⟩⟩
  refine⟨.ref s.heap.objs.size,_,I1,rfl,⟨s.heap.objs.size,x,hT',rfl,rfl,λys hy=>by rw[inj X a s p H ys k Z I hy W];exact G⟩,⟨⟨_,by have:=he2;simpa using this⟩,t⟩,λb hb=>?_⟩;have nb:b≠s.heap.objs.size:=by
   rcases AK.mp hb with z|z
   ·rw[z];exact BR S
   ·have F:b=c:=by simpa using z
    subst F;obtain⟨o,q,_⟩:=l _ _ Y;exact BR (Ax q)
  rw[j7 nb];exact(B b hb).1
 done:=by
  intro X hP hw Z hc i a s p H E I B g hg;obtain⟨k,W,G⟩:=hg;obtain⟨f,fp,Pv,St,T,hz,D,L,r,N,M⟩:=dr X hP hw Z hc i a s p H k I (B e ∎) (B c ∎) g.2 g.1 W;obtain⟨⟨d,n⟩,Y⟩:=g;have hi:i=f.length:=by rw[<-T.length];exact G.symm
  rw[hi]at r;refine wpAny_pyNext_enum_endD D n r λh1 eb=>⟨rfl,?_⟩;exact I.turnedAll (t':=s.toks) (ch:=[e,c]) B λb u hb q=>eb b u (λz=>hb (by simp[z])) q
 self:=λA i s Q E g h=>by
  obtain⟨⟨d,n⟩,_⟩:=g;exact KM n h
def bk0{h:BI}{a b:AH}{o u}(e:h.get? a=AA o)(c:h.get? b=AA u)(d:o.cls≠u.cls):a≠b:=λz=>by
 grind
section
variable {X:Cx}
def br4:Bn "enumerate"=AA (.type "enumerate"):=rfl
def ae8:Bn "reversed"=AA (.type "reversed"):=rfl
abbrev Itv(K:AQ)(a:AH)(n:Nat):It:=
 ⟨λi H=>(∃xs,SqL K H a xs/\xs.length=n)/\i<n,λi H x H'=>H'=H/\∀xs,SqL K H a xs->xs[n-1-i]?=AA x,λi H=>(∃xs,SqL K H a xs/\xs.length=n)/\i=n⟩
def b82{P:Al}{w:Ay}{K:AQ}{M:AS}(a j:AH)(n:Nat):Turn P w K M (Itv K a n) [j] j (λi h=>h.IsRevIter j a ((n:Int)-1-(i:Int))) where
 mem:=by simp
 obj:=λi h f b hb=>by
  have e:b=j:=by simpa using hb
  subst e;obtain⟨o,e,c,d⟩:=f;exact⟨o,e,λv z=>by rw[d]at z;cases z⟩
 keep:=λi h h' f k=>f.at λo e=>k j ∎ o e
 item:=by
  intro X t q v L i g s F H E I m f r;subst t q v;obtain⟨⟨l,J,S⟩,T⟩:=r;subst S;obtain⟨Q,N,p,Z⟩:=I.list J;obtain⟨x,G⟩:∃x,l[l.length-1-i]?=AA x:=⟨_,AM ⋯⟩;obtain⟨u,R,O⟩:=N.get G;obtain⟨D,C,U,B,A,y⟩:=m j ∎;have e:(l.length:Int)-1-(i:Int)=((l.length-1-i:Nat):Int):=by lia
  rw[e]at f;refine JF f p.isList (x:=u) (by simpa using R) λh' st' sb=>?_;have Y:Inv X g F H {s with heap:=h'}:=I.turned (t':=s.toks) (λb o hb e=>(sb.2 b hb).trans e) D C B A y;obtain⟨o,W,c,d⟩:=id st';have V:((l.length-1-i:Nat):Int)-1=(l.length:Int)-1-((i+1:Nat):Int):=by lia
  rw[V]at st';exact⟨u,rfl,ad4 (s:={s with heap:=h'}) W c d ∅ ⟨x,H,Y,O,⟨rfl,λys hy=>by rw[I.list_inj hy J];exact G⟩,st',λb hb=>(m b hb).1⟩⟩
 done:=by
  intro X t q v L i g s F H E I m f r;subst t q v;obtain⟨_,T⟩:=r;obtain⟨D,C,U,B,A,y⟩:=m j ∎;have e:(n:Int)-1-(i:Int)=-1:=by lia
  rw[e]at f;exact JS (I.ok.hd L) f λh' eb=>⟨rfl,I.turned (t':=s.toks) (λb o hb e=>eb b o hb e) D C B A y⟩
 self:=λ_ _ _ _ _ f h=>Ft f h
abbrev c49(K:AQ)(ta:TA):TI:=λσ H R=>ta σ H λvs H1=>∃a xs,vs=[.ref a]/\SqL K H1 a xs/\R (Itv K a xs.length) H1
def ci4{n a:AS}{k:TA}{p d:Pos}(B:Gl X "reversed")(A:X.mg "reversed"=AD)(C:PA X [a] k)(y:An [a] X.env=[(AF,eval a X.env)]:=by rfl):
  PI X n (.Call (.Name "reversed" p) [a] [] d) (c49 X.K k):=by
 intro f s m H R I h;refine IA (J7 I B A ae8 (Az (thn (C d f s m H _ I h) λus s1 z35=>?_) y rfl));obtain⟨E,D,i,v,w⟩:=z35;obtain⟨l,j,e,z,q⟩:=w;subst e;obtain⟨u,rfl,t⟩:=v.one;cases t;obtain⟨c,r,x,F⟩:=i.list z;refine Jr x.isList ?_;have g:(s1.heap.push (Ix l ((c.toArray.size:Int)-1))).IsRevIter s1.heap.objs.size l ((j.length:Int)-1-((0:Nat):Int)):=by
  refine⟨_,Ai _ rfl,rfl,?_⟩;have e:((c.toArray.size:Nat):Int)-1=(j.length:Int)-1-((0:Nat):Int):=by rw[Ad,<-r.length];lia
  rw[e];rfl
 refine Ft (s:={s1 with heap:=s1.heap.push (Ix l ((c.toArray.size:Int)-1))}) g ?_;refine⟨s1.heap.objs.size,[s1.heap.objs.size],_,_,D,rfl,i.kept (t':=s1.toks) λb o e=>AN _ e,b82 l _ j.length,g,λb hb=>?_,q⟩;have e:b=s1.heap.objs.size:=by simpa using hb
 subst e;exact i.fpOk (Ab _) (i.hok.fresh (Ab _))
abbrev av1(i j:Int):Prop:=0<j/\j.natAbs.log2<9000
def b30:OpR X (Do .FloorDiv) (rI av1 λi j=>.int (i / j)):=opI λi j _ _ _ _ _ hc q=>by
 have a:(0:Int)<j:=hc.1;exact floordiv_int ⋯ (by rw[Int.fdiv_eq_ediv_of_nonneg i ⋯];exact q) (.inl (PyProof.noPylong_of_log2 hc.2))
abbrev da5(K:AQ):R2:=λx y H Q=>∃a b xs ys,x=.ref a/\y=.ref b/\SqT K H a xs/\SqT K H b ys/\xs.length+ys.length<=sizeLine /\
 (xs=[]->Q (.ref b) H)/\(xs≠[]->ys=[]->Q (.ref a) H)/\(xs≠[]->ys≠[]->∀p,H p=AD->Q (.ref p) (upd H p (.tup (xs++ys))))
def ch3:OpR X (Do .Add) (da5 X.K):=by
 intro c s A H x y v u Q I p o h;obtain⟨a,b,m,B,rfl,rfl,t,r,P,J,G,E⟩:=h
 by_cases f:m=[]
 ·subst f;cases p;cases o;obtain⟨O,D,M,_⟩:=I.tuple t;obtain⟨d,V,L,_⟩:=I.tuple r;cases D;obtain⟨⟨U,T,w,C⟩,q,S,n,R⟩:=id M;obtain⟨⟨z,k,l,g⟩,e,j,N,i⟩:=id L;subst S R j i;exact Im ⟨_,q,rfl⟩ ⟨_,e,rfl⟩ HL IR PySem.F.slot_tuple_add PySem.F.entry_tuple_add (PySem.F.args_tuple_add_2 _ _)
   (tuple_addW0 a b #[] d.toArray n N T k C g ∎) ⟨q,e,⟨.ref b,H,I,rfl,J rfl⟩⟩
 ·exact ce3 c s A H _ _ v u Q I p o ⟨a,b,m,B,rfl,rfl,t,r,f,P,G f,E f⟩
end
end L2
namespace Ek
open PySem PySem.Spec PyProof.Rows L2
set_option genCtorIdx false
set_option genInjectivity false
inductive Tg where
 |n (i:Nat)|tup (is:List Nat)
mutual
inductive E where
 |non|bl (b:Bool)|int (i:Int)|str (x:Str)
 |v (i:Nat)
 |tup (es:Es)|lst (es:Es)
 |bin (o:Ey) (a b:E)
 |neg (a:E)
 |cmp (o:Dw) (a b:E)
 |isN (a:E)|notN (a:E)
 |and (a b:E)|or (a b:E)|not (a:E)
 |ite (c a b:E)
 |ix (a b:E)
 |sl (a lo hi:E)
 |dsel (ks:List Str) (vs:Es) (k:E)
 |gsel (g:Str) (k:E)|gget (g:Str) (k d:E)
 |len (a:E)|toInt (a:E)|list (a:E)|tuple (a:E)
 |max (a b:E)|min (a b:E)
 |call (f:Str) (es:Es)|gf (f:Str)|callv (i:Nat) (es:Es)|callx (c:E) (es:Es)|dict (ks:List Str) (vs:Es)|cmpl (ne:Bool) (a b:E)
 |fld (a:E) (f:Str)|meth (a:E) (m:Str) (es:Es)|make (c:Str) (es:Es)
 |app (a b:E)|ext (a b:E)|popAt (a b:E)|pop (a:E)|index (a b:E)
 |lrev (a:E)
 |lam (np:Nat) (N:List Str) (cp:List Nat) (e:E)|gc (g:Str)|lrl (a:E)
 |dnt|dgt (a k:E)|din (ne:Bool) (k a:E)
 |methd (a:E) (m:Str) (es:Es)
 |inl (a b:E)
 |comp (Nc:List Str) (fr:List Nat) (k:Nat) (t:Tg) (it:It) (c:E) (e:E)
inductive Es where
 |nil|cons (e:E) (r:Es)
inductive It where
 |seq (e:E)|rng (a:E)|rng2 (a b:E)|enumr (e:E)|rev (e:E)|revt (e:E)|zip (a b:E)
end
set_option genCtorIdx true
mutual
inductive S where
 |set (i:Nat) (e:E)
 |put (o i v:E)
 |dput (o i v:E)
 |fldS (o:E) (f:Str) (v:E)
 |ex (e:E)
 |iff (c:E) (a b:Ss)
 |ret (e:E)|retN
 |for (t:Tg) (it:It) (b:Ss)
 |while (c:E) (b:Ss)
 |cont|pass|dead
 |dfn (i np:Nat) (N:List Str) (cp:List Nat) (b:Ss)
inductive Ss where
 |nil|cons (s:S) (r:Ss)
end
abbrev Es.len:Es->Nat
 |.nil=>0
 |.cons _ r=>r.len+1
set_option genInjectivity true
inductive D where
 |non|bl (b:Bool)|int (i:Int)|str (x:Str)|tup (ds:List D)|ref (a:AH)|fn (f:Str)|clo (np:Nat) (N:List Str) (b:Ss) (cs:List D)|ktup (ns:List Int)
inductive Ob where
 |lst (ds:List D)|fro (ds:List D)|dct (kvs:List (Key×D))|dtt (kvs:List (Ak×D))|ins (c:Str) (fs:List (Str×D))
@[reducible]noncomputable def Sto:=AH->Option Ob
@[reducible]noncomputable def j8:=List (Option D)
@[reducible]noncomputable def DK:=D->Sto->Prop
@[reducible]noncomputable def DT:=j8->Sto->DK->Prop
@[reducible]noncomputable def DB:=j8->Sto->(Bool->Sto->Prop)->Prop
@[reducible]noncomputable def DA:=j8->Sto->(List D->Sto->Prop)->Prop
abbrev c9(st:Sto)(a:AH)(o:Ob):Sto:=λb=>if b=a then AA o else st b
def f6{st}{a}{o}:c9 st a o a=AA o:=by unfold c9;rw[if_pos rfl]
def G1{st}{a b}{o}(h:b≠a):c9 st a o b=st b:=by unfold c9;rw[if_neg h]
abbrev rdS(st:Sto)(a:AH)(ds:List D):Prop:=st a=AA (.lst ds)\/st a=AA (.fro ds)
abbrev Sub(st st':Sto):Prop:=∀a o,st a=AA o->st' a=AA o
def Sub.refl(st:Sto):Sub st st:=λ_ _ h=>h
mutual
noncomputable def D.py:D->Ak
 |.non=>.none|.bl b=>.bool b|.int i=>.int i|.str x=>.str x|.tup ds=>.tuple (D.pys ds)|.ref _=>.none|.fn _=>.none|.clo _ _ _ _=>.none|.ktup _=>.none
noncomputable def D.pys:List D->List Ak
 |[]=>[]
 |d::r=>d.py::D.pys r
end
mutual
noncomputable def D.pure:D->Bool
 |.tup ds=>D.pures ds
 |.ref _=>AF
 |.fn _=>AF
 |.clo _ _ _ _=>AF
 |.ktup _=>AF
 |.str x=>CW (.str x)
 |_=>AC
noncomputable def D.pures:List D->Bool
 |[]=>AC
 |d::r=>d.pure&&D.pures r
end
abbrev deq(d e:D):Bool:=Av d.py e.py
abbrev l8(d:D):Nat:=d.py.depth
@[reducible]noncomputable def Spec:=List D->Sto->DK->Prop
structure Sg where
 F:Str->Bool
 Phi:Str->Spec
 G:Str->List (Str×D)
 C:Str->List Str
 Mk:Str->Spec
 MF:Str->Bool
 PhiC:Nat->List Str->Ss->List D->Spec
 Kc:Str->Option D
@[inline]def f9(c m:Str):Str:=⟨c.cps++#[46]++m.cps⟩
abbrev E5(C:Str->List Str)(f:Str):Option Int:=match C ⟨#[33]++f.cps⟩with
 |[]=>AD
 |_::l=>AA (l.length:Nat)
abbrev l9(f:Str)(d:D):List (Str×D)->List (Str×D)
 |[]=>[(f,d)]
 |(g,e)::r=>if g=f then(g,d)::r else(g,e)::l9 f d r
abbrev Y1(Z:Sg)(ta:Sto->(List D->Sto->Prop)->Prop)(st:Sto)(Q:DK):D->Prop
 |.fn f=>Z.F f=AC/\ta st λds st1=>Z.Phi f ds st1 Q
 |.clo np N b cs=>ta st λds st1=>Z.PhiC np N b cs ds st1 Q
 |_=>False
abbrev K9(env:j8):List Nat->Option (List D)
 |[]=>AA []
 |i::is=>match env[i]?,K9 env is with
  |some (AA d),AA ds=>AA (d::ds)
  |_,_=>AD
abbrev U2(i j:Int):Prop:=aw8 i j\/(i.natAbs<2^20000/\j.natAbs<2^20000)
abbrev G6(kvs:List (Key×D))(k:Key):Option D:=(kvs.find? λkv=>AE (kv.1=k)).map (·.2)
abbrev C9:Ey->D->D->Sto->DK->Prop
 |.Add,.int i,.int j,st,Q=>Q (.int (i+j)) st
 |.Add,.tup xs,.tup ys,st,Q=>xs.length+ys.length<=sizeLine/\Q (.tup (xs++ys)) st
 |.Add,.ref a,.ref b,st,Q=>∃xs ys,st a=AA (.lst xs)/\st b=AA (.lst ys)/\xs.length+ys.length<=sizeLine/\∀p,st p=AD->Q (.ref p) (c9 st p (.lst (xs++ys)))
 |.Sub,.int i,.int j,st,Q=>Q (.int (i-j)) st
 |.Mult,.int i,.int j,st,Q=>U2 i j/\Q (.int (i*j)) st
 |.Mod,.int i,.int j,st,Q=>0<j/\Q (.int (i % j)) st
 |.FloorDiv,.int i,.int j,st,Q=>av1 i j/\Q (.int (i / j)) st
 |.Pow,.int i,.int j,st,Q=>ax2 i j/\Q (.int (i^j.toNat)) st
 |_,_,_,_,_=>False
abbrev o8:Dw->D->D->Sto->DK->Prop
 |.Eq,x,y,st,Q=>x.pure=AC/\y.pure=AC/\EW (l8 x) (l8 y)<=150/\Q (.bl (deq x y)) st
 |.NotEq,x,y,st,Q=>x.pure=AC/\y.pure=AC/\EW (l8 x) (l8 y)<=150/\Q (.bl (!deq x y)) st
 |.Lt,.int i,.int j,st,Q=>Q (.bl (AE (i<j))) st
 |.LtE,.int i,.int j,st,Q=>Q (.bl (AE (i<=j))) st
 |.Gt,.int i,.int j,st,Q=>Q (.bl (AE (j<i))) st
 |.GtE,.int i,.int j,st,Q=>Q (.bl (AE (j<=i))) st
 |.In,x,.tup ys,st,Q=>x.pure=AC/\D.pures ys=AC/\l8 x<=150/\Q (.bl (ys.any λy=>deq y x)) st
 |.NotIn,x,.tup ys,st,Q=>x.pure=AC/\D.pures ys=AC/\l8 x<=150/\Q (.bl (!ys.any λy=>deq y x)) st
 |.In,.int i,.ktup ns,st,Q=>Q (.bl (AE (i∈ns))) st
 |.In,.str w,.ref a,st,Q=>∃kvs,st a=AA (.dct kvs)/\Q (.bl (G6 kvs (.inr w)).isSome) st
 |_,_,_,_,_=>False
abbrev ixR:D->D->Sto->DK->Prop
 |.tup ds,.int i,st,Q=>∃d,atI ds i=AA d/\Q d st
 |.ref a,.int i,st,Q=>(∃ds d,rdS st a ds/\atI ds i=AA d/\Q d st)\/∃kvs d,st a=AA (.dct kvs)/\G6 kvs (.inl i)=AA d/\Q d st
 |.ref a,.str w,st,Q=>∃kvs d,st a=AA (.dct kvs)/\G6 kvs (.inr w)=AA d/\Q d st
 |.str w,.int i,st,Q=>∃c,w.length<=sizeLine/\atI w.cps.toList i=AA c/\Q (.str ⟨#[c]⟩) st
 |_,_,_,_=>False
abbrev t5(xs:List D)(lo hi:Option Int):List D:=(xs.drop (HT.sIx xs.length 0 lo)).take (HT.sIx xs.length xs.length hi-HT.sIx xs.length 0 lo)
abbrev slR:D->Option Int->Option Int->Sto->DK->Prop
 |.tup ds,lo,hi,st,Q=>¬(HT.sIx ds.length 0 lo=0/\HT.sIx ds.length ds.length hi=ds.length)/\Q (.tup (t5 ds lo hi)) st
 |.ref a,lo,hi,st,Q=>∃ds,rdS st a ds/\∀p,st p=AD->Q (.ref p) (c9 st p (.lst (t5 ds lo hi)))
 |_,_,_,_,_=>False
abbrev p6:List (Str×D)->Str->Option D
 |[],_=>AD
 |(k,d)::r,x=>if k=x then AA d else p6 r x
abbrev U7:D->Sto->DK->Prop
 |.tup ds,st,Q=>Q (.int ds.length) st
 |.ref a,st,Q=>∃ds,rdS st a ds/\Q (.int ds.length) st
 |_,_,_=>False
abbrev ac2:D->Sto->DK->Prop
 |.bl b,st,Q=>Q (.int (if b then 1 else 0)) st
 |.int i,st,Q=>Q (.int i) st
 |_,_,_=>False
abbrev ai6:D->Sto->DK->Prop
 |.tup ds,st,Q=>∀p,st p=AD->Q (.ref p) (c9 st p (.lst ds))
 |.ref a,st,Q=>∃ds,rdS st a ds/\∀p,st p=AD->Q (.ref p) (c9 st p (.lst ds))
 |_,_,_=>False
abbrev W8:D->Sto->DK->Prop
 |.tup ds,st,Q=>Q (.tup ds) st
 |.ref a,st,Q=>∃ds,rdS st a ds/\Q (.tup ds) st
 |_,_,_=>False
abbrev be1:D->Sto->DK->Prop
 |.ref a,st,Q=>∃ds,rdS st a ds/\Q (.bl AC) st
 |_,_,_=>False
abbrev E2(xs ys:List D):List D:=(xs.zip ys).map λp=>.tup [p.1,p.2]
abbrev z6(st:Sto):D->List D->Prop
 |.tup ds,xs=>ds=xs
 |.ref a,xs=>rdS st a xs
 |_,_=>False
abbrev au5:D->D->Sto->DK->Prop
 |.ref a,.int i,st,Q=>(-(2^62)<=i/\i<2^62)/\∃ds k d,st a=AA (.lst ds)/\ixN ds.length i=AA k/\ds[k]?=AA d/\Q d (c9 st a (.lst (ds.eraseIdx k)))
 |_,_,_,_=>False
abbrev ae4:D->Sto->DK->Prop
 |.ref a,st,Q=>∃ds d,st a=AA (.lst (ds++[d]))/\Q d (c9 st a (.lst ds))
 |_,_,_=>False
abbrev ae3:D->Sto->DK->Prop
 |.ref a,st,Q=>∃ds,st a=AA (.lst ds)/\Q .non (c9 st a (.lst ds.reverse))
 |_,_,_=>False
abbrev E7(kvs:List (Ak×D))(k:Ak):Option D:=(kvs.find? λkv=>AE (kv.1=k)).map (·.2)
abbrev Y7(kvs:List (Ak×D))(k:Ak)(v:D):List (Ak×D):=
 if(kvs.any λkv=>AE (kv.1=k))=AC then kvs.map (λkv=>if kv.1=k then(kv.1,v)else kv)else kvs++[(k,v)]
abbrev D.key(d:D):Prop:=NK.lit d.py=AC/\d.py.depth<=7
abbrev dc2:D->Option Int->Option Int->Sto->DK->Prop
 |.tup ds,lo,hi,st,Q=>Q (.tup (t5 ds lo hi)) st
 |_,_,_,_,_=>False
abbrev ax7:D->Sto->Prop
 |.ref a,st=>∃kvs,st a=AA (.dtt kvs)
 |_,_=>False
abbrev ax5:D->D->Sto->DK->Prop
 |.ref a,.tup ks,st,Q=>∃kvs,st a=AA (.dtt kvs)/\D.key (.tup ks)/\Q ((E7 kvs (D.tup ks).py).getD .non) st
 |_,_,_,_=>False
abbrev U8(ne:Bool):D->D->Sto->DK->Prop
 |.non,.ref a,st,Q=>st a=AA (.dtt [])/\Q (.bl ne) st
 |.tup ks,.ref a,st,Q=>∃kvs,st a=AA (.dtt kvs)/\D.key (.tup ks)/\Q (.bl (ne != (E7 kvs (D.tup ks).py).isSome)) st
 |_,_,_,_=>False
abbrev av4:D->D->D->Sto->(Sto->Prop)->Prop
 |.ref a,.tup ks,d,st,K=>∃kvs,st a=AA (.dtt kvs)/\D.key (.tup ks)/\kvs.length<sizeLine/\K (c9 st a (.dtt (Y7 kvs (D.tup ks).py d)))
 |_,_,_,_,_=>False
abbrev U6:D->D->Sto->DK->Prop
 |x,.ref a,st,Q=>∃ds,rdS st a ds/\x.pure=AC/\D.pures ds=AC/\l8 x<=150/\Q (.bl (ds.any λy=>deq y x)) st
 |_,_,_,_=>False
abbrev ad7:D->Sto->DK->Prop
 |.ref a,st,Q=>∃ds,rdS st a ds/\ds.length<=1000000/\∀p,st p=AD->Q (.ref p) (c9 st p (.lst ds.reverse))
 |_,_,_=>False
abbrev ae0:D->D->Sto->DK->Prop
 |.ref a,d,st,Q=>∃ds,st a=AA (.lst ds)/\ds.length<sizeLine/\Q .non (c9 st a (.lst (ds++[d])))
 |_,_,_,_=>False
abbrev Y8:D->D->Sto->DK->Prop
 |.ref a,.ref b,st,Q=>∃ds es,st a=AA (.lst ds)/\st b=AA (.lst es)/\ds.length+es.length<=sizeLine/\Q .non (c9 st a (.lst (ds++es)))
 |.ref a,.tup es,st,Q=>∃ds,st a=AA (.lst ds)/\ds.length+es.length<=sizeLine/\Q .non (c9 st a (.lst (ds++es)))
 |_,_,_,_=>False
abbrev S9:D->D->Sto->DK->Prop
 |.ref a,x,st,Q=>∃ds,rdS st a ds/\x.pure=AC/\D.pures ds=AC/\l8 x<=150/\∃(j:Nat)(d:D),ds[j]?=AA d/\deq d x=AC/\(∀(i:Nat)e,i<j->ds[i]?=AA e->deq e x=AF)/\Q (.int (j:Int)) st
 |.tup ds,x,st,Q=>x.pure=AC/\D.pures ds=AC/\l8 x<=150/\∃(j:Nat)(d:D),ds[j]?=AA d/\deq d x=AC/\(∀(i:Nat)e,i<j->ds[i]?=AA e->deq e x=AF)/\Q (.int (j:Int)) st
 |_,_,_,_=>False
abbrev F0:D->Sto->Prop
 |.ref a,st=>∃ds,rdS st a ds
 |_,_=>False
abbrev ae1:D->Sto->Prop
 |.tup _,_=>True
 |.ref a,st=>∃ds,rdS st a ds
 |_,_=>False
abbrev U1(ne:Bool):D->D->Sto->DK->Prop
 |.ref a,.ref b,st,Q=>∃xs ys,rdS st a xs/\rdS st b ys/\D.pures xs=AC/\D.pures ys=AC/\BZ (D.pys xs)<=149/\Q (.bl (ne != BY (D.pys xs) (D.pys ys))) st
 |_,_,_,_=>False
abbrev T2:j8->List Nat->List D->j8
 |env,i::is,d::ds=>T2 (env.set i (AA d)) is ds
 |env,_,_=>env
abbrev O3:Tg->D->j8->(j8->Prop)->Prop
 |.n i,d,env,k=>k (env.set i (AA d))
 |.tup is,d,env,k=>∃ds,d=.tup ds/\ds.length=is.length/\k (T2 env is ds)
abbrev z7(lo:Int)(n:Nat):List D:=(Dj n).map λi=>.int (lo+(i:Nat))
abbrev B9:Nat->List D->List D
 |_,[]=>[]
 |i,d::ds=>.tup [.int i,d]::B9 (i+1) ds
abbrev B1(chk:Sto->Prop)(t:Tg)(tc:DB)(te:DT)(Q:List D->Sto->Prop):List D->List D->j8->Sto->Prop
 |[],acc,_,st=>chk st/\Q acc st
 |d::ds,acc,env,st=>chk st/\O3 t d env λenv'=>tc env' st λb st1=>
   if b=AC then te env' st1 λv st2=>B1 chk t tc te Q ds (acc++[v]) env' st2
   else B1 chk t tc te Q ds acc env' st1
abbrev S8(fr:List Nat)(k:Nat)(env:j8):j8:=(fr.map λj=>(env[j]?).join)++BP k AD
abbrev E.isNon:E->Bool
 |.non=>AC
 |_=>AF
@[reducible]noncomputable def ItK:=List D->(Sto->Prop)->Sto->Prop
mutual
noncomputable def wpE(Z:Sg):E->DT
 |.non=>λ_ st Q=>Q .non st
 |.bl b=>λ_ st Q=>Q (.bl b) st
 |.int i=>λ_ st Q=>Q (.int i) st
 |.str x=>λ_ st Q=>Q (.str x) st
 |.v i=>λenv st Q=>∃d,env[i]?=AA (AA d)/\Q d st
 |.tup es=>λenv st Q=>p7 Z es env st λds st1=>Q (.tup ds) st1
 |.lst es=>λenv st Q=>p7 Z es env st λds st1=>∀p,st1 p=AD->Q (.ref p) (c9 st1 p (.lst ds))
 |.bin o a b=>λenv st Q=>wpE Z a env st λx st1=>wpE Z b env st1 λy st2=>C9 o x y st2 Q
 |.neg a=>λenv st Q=>wpE Z a env st λx st1=>∃i,x=.int i/\Q (.int (-i)) st1
 |.cmp o a b=>λenv st Q=>wpE Z a env st λx st1=>wpE Z b env st1 λy st2=>o8 o x y st2 Q
 |.isN a=>λenv st Q=>wpE Z a env st λx st1=>(x=.non/\Q (.bl AC) st1)\/(x≠.non/\Q (.bl AF) st1)
 |.notN a=>λenv st Q=>wpE Z a env st λx st1=>(x=.non/\Q (.bl AF) st1)\/(x≠.non/\Q (.bl AC) st1)
 |.and a b=>λenv st Q=>wpE Z a env st λx st1=>∃c,x=.bl c/\(if c=AC then wpE Z b env st1 Q else Q (.bl AF) st1)
 |.or a b=>λenv st Q=>wpE Z a env st λx st1=>∃c,x=.bl c/\(if c=AC then Q (.bl AC) st1 else wpE Z b env st1 Q)
 |.not a=>λenv st Q=>wpE Z a env st λx st1=>∃c,x=.bl c/\Q (.bl (!c)) st1
 |.ite c a b=>λenv st Q=>wpE Z c env st λx st1=>∃k,x=.bl k/\(if k=AC then wpE Z a env st1 Q else wpE Z b env st1 Q)
 |.ix a b=>λenv st Q=>wpE Z a env st λx st1=>wpE Z b env st1 λy st2=>ixR x y st2 Q
 |.sl a lo hi=>λenv st Q=>wpE Z a env st λx st1=>
   (if lo.isNon=AC then λk=>k AD st1 else λ(k:Option Int->Sto->Prop)=>wpE Z lo env st1 λd st'=>∃i,d=.int i/\k (AA i) st') λl st2=>
   (if hi.isNon=AC then λk=>k AD st2 else λ(k:Option Int->Sto->Prop)=>wpE Z hi env st2 λd st'=>∃i,d=.int i/\k (AA i) st') λh st3=>slR x l h st3 Q
 |.dsel ks vs k=>λenv st Q=>p7 Z vs env st λds st1=>wpE Z k env st1 λx st2=>∃w d,x=.str w/\p6 (ks.zip ds) w=AA d/\Q d st2
 |.gget g k d=>λenv st Q=>Z.G g≠[]/\wpE Z k env st λx st1=>wpE Z d env st1 λy st2=>∃w,x=.str w/\Q ((p6 (Z.G g) w).getD y) st2
 |.gsel g k=>λenv st Q=>Z.G g≠[]/\wpE Z k env st λx st1=>∃w d,x=.str w/\p6 (Z.G g) w=AA d/\Q d st1
 |.len a=>λenv st Q=>wpE Z a env st λx st1=>U7 x st1 Q
 |.toInt a=>λenv st Q=>wpE Z a env st λx st1=>ac2 x st1 Q
 |.list a=>λenv st Q=>wpE Z a env st λx st1=>ai6 x st1 Q
 |.tuple a=>λenv st Q=>wpE Z a env st λx st1=>W8 x st1 Q
 |.max a b=>λenv st Q=>wpE Z a env st λx st1=>wpE Z b env st1 λy st2=>∃i j,x=.int i/\y=.int j/\Q (.int (if j>i then j else i)) st2
 |.min a b=>λenv st Q=>wpE Z a env st λx st1=>wpE Z b env st1 λy st2=>∃i j,x=.int i/\y=.int j/\Q (.int (if j<i then j else i)) st2
 |.call f es=>λenv st Q=>Z.F f=AC/\p7 Z es env st λds st1=>Z.Phi f ds st1 Q
 |.gf f=>λ_ st Q=>Z.F f=AC/\Q (.fn f) st
 |.callx c es=>λenv st Q=>wpE Z c env st λx st1=>∃f,x=.fn f/\Z.F f=AC/\p7 Z es env st1 λds st2=>Z.Phi f ds st2 Q
 |.callv i es=>λenv st Q=>∃x,env[i]?=AA (AA x)/\Y1 Z (p7 Z es env) st Q x
 |.gc g=>λ_ st Q=>∃d,Z.Kc g=AA d/\Q d st
 |.lam np N cp e=>λenv st Q=>∃cs,K9 env cp=AA cs/\Q (.clo np N (.cons (.ret e) .nil) cs) st
 |.dict ks vs=>λenv st Q=>p7 Z vs env st λds st1=>∀p,st1 p=AD->Q (.ref p) (c9 st1 p (.dct ((ks.zip ds).map λkv=>(.inr kv.1,kv.2))))
 |.cmpl ne a b=>λenv st Q=>wpE Z a env st λx st1=>wpE Z b env st1 λy st2=>U1 ne x y st2 Q
 |.fld a f=>λenv st Q=>wpE Z a env st λx st1=>∃p c fs d,x=.ref p/\st1 p=AA (.ins c fs)/\f∈Z.C c/\fs.lookup f=AA d/\Q d st1
 |.meth a m es=>λenv st Q=>wpE Z a env st λx st1=>∃p c fs,x=.ref p/\st1 p=AA (.ins c fs)/\fs.lookup m=AD/\Z.F (f9 c m)=AC/\p7 Z es env st1 λds st2=>Z.Phi (f9 c m) (.ref p::ds) st2 Q
 |.methd a m es=>λenv st Q=>wpE Z a env st λx st1=>∃p c fs i,x=.ref p/\st1 p=AA (.ins c fs)/\fs.lookup m=AD/\Z.F (f9 c m)=AC/\E5 Z.C (f9 c m)=AA i/\p7 Z es env st1 λds st2=>Z.Phi (f9 c m) (.ref p::(ds++[.int i])) st2 Q
 |.make c es=>λenv st Q=>Z.MF (f9 c "__init__")=AC/\p7 Z es env st λds st1=>∀p,st1 p=AD->Z.Mk (f9 c "__init__") (.ref p::ds) (c9 st1 p (.ins c [])) λv st2=>v=.non/\Q (.ref p) st2
 |.app a b=>λenv st Q=>wpE Z a env st λx st1=>F0 x st1/\wpE Z b env st1 λy st2=>ae0 x y st2 Q
 |.ext a b=>λenv st Q=>wpE Z a env st λx st1=>F0 x st1/\wpE Z b env st1 λy st2=>Y8 x y st2 Q
 |.popAt a b=>λenv st Q=>wpE Z a env st λx st1=>F0 x st1/\wpE Z b env st1 λy st2=>au5 x y st2 Q
 |.pop a=>λenv st Q=>wpE Z a env st λx st1=>ae4 x st1 Q
 |.lrl a=>λenv st Q=>wpE Z a env st λx st1=>ad7 x st1 Q
 |.inl a b=>λenv st Q=>wpE Z a env st λx st1=>wpE Z b env st1 λy st2=>U6 x y st2 Q
 |.dnt=>λenv st Q=>Z.C "!kt"≠[]/\∀p,st p=AD->Q (.ref p) (c9 st p (.dtt []))
 |.dgt a k=>λenv st Q=>wpE Z a env st λx st1=>ax7 x st1/\wpE Z k env st1 λy st2=>ax5 x y st2 Q
 |.din ne k a=>λenv st Q=>wpE Z k env st λy st1=>wpE Z a env st1 λx st2=>U8 ne y x st2 Q
 |.lrev a=>λenv st Q=>wpE Z a env st λx st1=>ae3 x st1 Q
 |.index a b=>λenv st Q=>wpE Z a env st λx st1=>ae1 x st1/\wpE Z b env st1 λy st2=>S9 x y st2 Q
 |.comp _ fr k t it c e=>λenv st Q=>A5 Z it env st λitems chk st1=>items.length<=1000000 /\
   B1 chk t (if c.isNon=AC then λ_ st Q=>Q AC st else λenv st Q=>wpE Z c env st λd st'=>∃b,d=.bl b/\Q b st') (λenv st Q=>wpE Z e env st Q) (λacc st'=>∀p,st' p=AD->Q (.ref p) (c9 st' p (.lst acc))) items [] (S8 fr k env) st1
noncomputable def p7(Z:Sg):Es->DA
 |.nil=>λ_ st Q=>Q [] st
 |.cons e r=>λenv st Q=>wpE Z e env st λd st1=>p7 Z r env st1 λds st2=>Q (d::ds) st2
noncomputable def A5(Z:Sg):It->j8->Sto->ItK->Prop
 |.seq e=>λenv st k=>wpE Z e env st λd st1=>(∃ds,d=.tup ds/\k ds (λ_=>True) st1)\/(∃a ds,d=.ref a/\rdS st1 a ds/\k ds (λst'=>rdS st' a ds) st1)
 |.rng a=>λenv st k=>wpE Z a env st λd st1=>∃j:Int,d=.int j/\(-(2^62)<=j/\j<2^62)/\k (z7 0 j.toNat) (λ_=>True) st1
 |.rng2 a b=>λenv st k=>wpE Z a env st λd st1=>wpE Z b env st1 λe st2=>∃i j:Int,d=.int i/\e=.int j/\(-(2^62)<=i/\i<2^62/\-(2^62)<=j/\j<2^62)/\k (z7 i (j-i).toNat) (λ_=>True) st2
 |.enumr e=>λenv st k=>wpE Z e env st λd st1=>∃ds,d=.tup ds/\k (B9 0 ds.reverse) (λ_=>True) st1
 |.zip a b=>λenv st k=>wpE Z a env st λd st1=>wpE Z b env st1 λe st2=>∃xs ys,z6 st2 d xs/\z6 st2 e ys/\k (E2 xs ys) (λst'=>z6 st' d xs/\z6 st' e ys) st2
 |.revt e=>λenv st k=>wpE Z e env st λd st1=>∃ds,d=.tup ds/\k ds.reverse (λ_=>True) st1
 |.rev e=>λenv st k=>wpE Z e env st λd st1=>∃a ds,d=.ref a/\rdS st1 a ds/\k ds.reverse (λst'=>rdS st' a ds) st1
end
abbrev wpT(Z:Sg)(e:E):DB:=λenv st Q=>wpE Z e env st λd st'=>∃b,d=.bl b/\Q b st'
structure DEnds where
 nx:j8->Sto->Prop
 rt:DK
 bk:j8->Sto->Prop:=λ_ _=>False
 ct:j8->Sto->Prop:=λ_ _=>False
@[reducible]noncomputable def DS:=DEnds->j8->Sto->Prop
abbrev A7(chk:Sto->Prop)(t:Tg)(tb:DS)(F:DEnds):List D->j8->Sto->Prop
 |[],env,st=>chk st/\F.nx env st
 |d::ds,env,st=>chk st/\O3 t d env λenv'=>tb {F with nx:=A7 chk t tb F ds,ct:=A7 chk t tb F ds,bk:=F.nx} env' st
abbrev B8(tc:DB)(tb:DS)(F:DEnds):Nat->j8->Sto->Prop
 |0,_,_=>False
 |n+1,env,st=>tc env st λb st1=>if b=AC then tb {F with nx:=B8 tc tb F n,ct:=B8 tc tb F n,bk:=F.nx} env st1 else F.nx env st1
mutual
noncomputable def wpS(Z:Sg):S->DS
 |.set i e=>λF env st=>wpE Z e env st λd st1=>F.nx (env.set i (AA d)) st1
 |.dput o i v=>λF env st=>wpE Z v env st λd st1=>wpE Z o env st1 λx st2=>wpE Z i env st2 λy st3=>av4 x y d st3 λst4=>F.nx env st4
 |.put o i v=>λF env st=>wpE Z v env st λd st1=>wpE Z o env st1 λx st2=>wpE Z i env st2 λy st3=>
   ∃a j k ds,x=.ref a/\y=.int j/\st3 a=AA (.lst ds)/\ixN ds.length j=AA k/\F.nx env (c9 st3 a (.lst (ds.set k d)))
 |.fldS o f v=>λF env st=>wpE Z v env st λd st1=>wpE Z o env st1 λx st2=>∃p c fs,x=.ref p/\st2 p=AA (.ins c fs)/\f∈Z.C c/\fs.length<1000/\F.nx env (c9 st2 p (.ins c (l9 f d fs)))
 |.ex e=>λF env st=>wpE Z e env st λ_ st1=>F.nx env st1
 |.iff c a b=>λF env st=>wpT Z c env st λk st1=>if k=AC then l5 Z a F env st1 else l5 Z b F env st1
 |.ret e=>λF env st=>wpE Z e env st F.rt
 |.retN=>λF _ st=>F.rt .non st
 |.for t it b=>λF env st=>A5 Z it env st λitems chk st1=>A7 chk t (l5 Z b) F items env st1
 |.while c b=>λF env st=>∃n,B8 (wpT Z c) (l5 Z b) F n env st
 |.cont=>λF env st=>F.ct env st
 |.dead=>λ_ _ _=>False
 |.pass=>λF env st=>F.nx env st
 |.dfn i np N cp b=>λF env st=>∃cs,K9 env cp=AA cs/\F.nx (env.set i (AA (.clo np N b cs))) st
noncomputable def l5(Z:Sg):Ss->DS
 |.nil=>λF env st=>F.nx env st
 |.cons s r=>λF env st=>wpS Z s {F with nx:=l5 Z r F} env st
end
structure Def where
 np:Nat
 N:List Str
 body:Ss
@[reducible]noncomputable def i9:=Str->Option Def
abbrev ai2(f:Def)(ds:List D):j8:=ds.map AA++BP (f.N.length-ds.length) AD
structure Gs where
 tab:Str->List (Str×D)
 cls:Str->List Str
 cst:Str->Option D
abbrev bo5(P:i9)(G:Gs)(lo lo2:Str->Spec)(po:Bool)(lc:Nat->List Str->Ss->List D->Spec)(f:Str):Spec:=λds st Q=>∃fd,P f=AA fd/\ds.length=fd.np/\l5 ⟨λf=>(P f).isSome,lo,G.tab,G.cls,lo2,λf=>po&&(P f).isSome,lc,G.cst⟩ fd.body
   {nx:=λ_ st'=>∃s2,Sub s2 st'/\Q .non s2,rt:=λd st'=>∃s2,Sub s2 st'/\Q d s2} (ai2 fd ds) st
abbrev Q2(N:List Str)(ds cs:List D):j8:=(ds++cs).map AA++BP (N.length-(ds++cs).length) AD
abbrev bq0(P:i9)(G:Gs)(lo lo2:Str->Spec)(po:Bool)(lc:Nat->List Str->Ss->List D->Spec)(np:Nat)(N:List Str)(b:Ss)(cs:List D):Spec:=λds st Q=>ds.length=np/\l5 ⟨λf=>(P f).isSome,lo,G.tab,G.cls,lo2,λf=>po&&(P f).isSome,lc,G.cst⟩ b
   {nx:=λ_ st'=>∃s2,Sub s2 st'/\Q .non s2,rt:=λd st'=>∃s2,Sub s2 st'/\Q d s2} (Q2 N ds cs) st
abbrev A8(P:i9)(G:Gs):Nat->(Str->Spec)×(Str->Spec)×Bool×(Nat->List Str->Ss->List D->Spec)
 |0=>(λ_ _ _ _=>False,λ_ _ _ _=>False,AF,λ_ _ _ _ _ _ _=>False)
 |n+1=>(bo5 P G (A8 P G n).1 (A8 P G n).2.1 (A8 P G n).2.2.1 (A8 P G n).2.2.2,(A8 P G n).1,AC,bq0 P G (A8 P G n).1 (A8 P G n).2.1 (A8 P G n).2.2.1 (A8 P G n).2.2.2)
abbrev sem(P:i9)(G:Gs)(n:Nat):Str->Spec:=(A8 P G n).1
abbrev O8(P:i9)(G:Gs)(n:Nat):Nat->List Str->Ss->List D->Spec:=(A8 P G n).2.2.2
def b68{P}{G}{n}:sem P G (n+1)=bo5 P G (sem P G n) (A8 P G n).2.1 (A8 P G n).2.2.1 (O8 P G n):=rfl
def bz3{P}{G}{n}:O8 P G (n+1)=bq0 P G (sem P G n) (A8 P G n).2.1 (A8 P G n).2.2.1 (O8 P G n):=rfl
class Tbs where
 ps:List AH
 mt:Ss->BS->List Str->Dr->Prop
 kt:Bool
variable{H:Hp}{a p:AH}{xs vs:List V}{v:V}{ds:List D}{o:HO}{σ:L2.St}{st:Sto}{kvs:List (Ak×D)}{ob:Ob}{X:Cx}{x:AS}{Qd:DK}{Q:VK}
structure FnScC(N P:List Str)(sc:BS):Prop where
 kind:sc.kind=.function
 co:sc.isCoroutine=AF
 gen:sc.isGenerator=AF
 nd:N.Nodup
 pre:N.take P.length=P
 par:∀x∈P,sc.names.lookup x=AA .local
 nocell:∀y∈sc.names,y.2≠.cell
 fre:∀y∈sc.names,y.2=.free->sc.names.lookup y.1=AA .free
abbrev Q7(H:Hp)(cv:AG):Prop:=∃c o u vs q t,cv=.ref c/\H c=AA (.frz o u)/\(∀vs,u≠.lst vs)/\o.data=.fields vs/\vs[1]?=AA (.str q t)
variable [Tbs]
structure CloF(fd:Bt)(np:Nat)(N ps:List Str)(b:Ss):Prop where
 sc:FnScC N ps fd.scope
 np:ps.length=np
 mt:Tbs.mt b fd.scope N fd.body
 bind:∀us:List AG,us.length=ps.length->EG fd ⟨us,[]⟩=pure (ps.zip us)
 gl:fd.globals=AO
 bl:fd.builtins=DG
 has:∀x,(x,BF)∈fd.scope.names->∃c,fd.closure.lookup x=AA c
 fre:∀x c,fd.closure.lookup x=AA c->(x,BF)∈fd.scope.names
 inj:∀x y c,fd.closure.lookup x=AA c->fd.closure.lookup y=AA c->x=y
structure CloR(H:Hp)(f:AH)(fd:Bt)(np:Nat)(N:List Str)(us:List V):Prop where
 ex:∃o u,H f=AA (.frz o u)/\(∀vs,u≠.lst vs)/\o.data=.func fd
 cd:Q7 H fd.code
 cl:∀x c,fd.closure.lookup x=AA c->∃o' u' w,H c=AA (.frz o' u')/\(∀vs,u'≠.lst vs)/\o'.data=.cell (AA w)
 at':∀(i:Nat)v,us[i]?=AA v->∃x c o' u' w,N[np+i]?=AA x/\fd.closure.lookup x=AA c/\H c=AA (.frz o' u')/\(∀vs,u'≠.lst vs)/\o'.data=.cell (AA w)/\i8 v w
abbrev ad2(H:Hp)(f:AH)(np:Nat)(N:List Str)(b:Ss)(us:List V):Prop:=∃fd ps,CloF fd np N ps b/\CloR H f fd np N us
abbrev SqX(K:AQ)(H:Hp)(a:AH)(xs:List V):Prop:=H a=AA (.tup xs)\/(Tbs.kt=AC/\SqT K H a xs)
def SqX.sqt{K}(h:SqX K H a xs):=h.elim (λh=>.inl (.inl h)) λh=>h.2
def SqX.of{K:AQ}(h:H a=AA (.tup xs)):SqX K H a xs:=.inl h
def SqX.trk{K}(b:Tbs.kt=AF)(h:SqX K H a xs):=h.elim (λh=>h) λh=>by simp_all
inductive IsD(K:AQ)(H:Hp):D->V->Prop where
 |non:IsD K H .non .non
 |bl (b:Bool):IsD K H (.bl b) (.bl b)
 |int (i:Int):IsD K H (.int i) (.int i)
 |str (x:Str):IsD K H (.str x) (.str x)
 |ref (a:AH):IsD K H (.ref a) (.ref a)
 |fn {f:Str} {a:AH}:BJ K AO f=AA (AA (.ref a))->IsD K H (.fn f) (.ref a)
 |clo {f:AH} {np:Nat} {N:List Str} {b:Ss} {ds:List D} {us:List V}:ad2 H f np N b us->ds.length=us.length->(∀(i:Nat)d v,ds[i]?=AA d->us[i]?=AA v->IsD K H d v)->IsD K H (.clo np N b ds) (.ref f)
 |tup {a:AH} {ds:List D} {vs:List V}:SqX K H a vs->ds.length=vs.length->(∀(i:Nat)d v,ds[i]?=AA d->vs[i]?=AA v->IsD K H d v)->IsD K H (.tup ds) (.ref a)
 |ktup {a:AH} {ns:List Int}:SqT K (λ_=>AD) a (ns.map V.int)->IsD K H (.ktup ns) (.ref a)
structure IsDs(K:AQ)(H:Hp)(ds:List D)(vs:List V):Prop where
 len:ds.length=vs.length
 at':∀(i:Nat)d v,ds[i]?=AA d->vs[i]?=AA v->IsD K H d v
section
variable {K:AQ} {H' H2:Hp} {d:D} {es:List D} {ws:List V}
def IsD.mk(h:SqX K H a vs)(r:IsDs K H ds vs):IsD K H (.tup ds) (.ref a):=.tup h r.len r.at'
def IsD.tup_invX(h:IsD K H (.tup ds) v):∃a d,v=.ref a/\SqX K H a d/\IsDs K H ds d:=by
 cases h with
 |tup a b c=>exact⟨_,_,rfl,a,b,c⟩
def IsD.tup_inv(h:IsD K H (.tup ds) v):∃a b,v=.ref a/\SqT K H a b/\IsDs K H ds b:=let⟨a,b,e,q,r⟩:=h.tup_invX;⟨a,b,e,q.sqt,r⟩
def IsDs.nil:IsDs K H [] []:=⟨rfl,λi d v h=>by simp at h⟩
def IsDs.cons(h:IsD K H d v)(r:IsDs K H ds vs):IsDs K H (d::ds) (v::vs):=⟨by simp[r.len],λi e w h1 h2=>by
 cases i with
 |zero=>simp_all
 |succ i=>exact r.at' i e w (by simpa using h1) (by simpa using h2)⟩
def IsDs.get(r:IsDs K H ds vs){i:Nat}{d}(h:ds[i]?=AA d):∃v,vs[i]?=AA v/\IsD K H d v:=by
 have a:=(AX.mp h).1;rw[r.len]at a;exact⟨vs[i],AM a,r.at' i d _ h (AM a)⟩
def IsDs.get'(r:IsDs K H ds vs){i:Nat}(h:vs[i]?=AA v):∃d,ds[i]?=AA d/\IsD K H d v:=by
 have a:=(AX.mp h).1;rw[<-r.len]at a;exact⟨ds[i],AM a,r.at' i _ v (AM a) h⟩
def IsDs.inv_cons{d}(r:IsDs K H (d::ds) vs):∃v a,vs=v::a/\IsD K H d v/\IsDs K H ds a:=by
 cases vs with
 |nil=>have:=r.len;simp at this
 |cons v a=>exact⟨v,a,rfl,r.at' 0 d v rfl rfl,⟨by have:=r.len;simpa using this,λi e w h1 h2=>r.at' (i+1) e w (by simpa using h1) (by simpa using h2)⟩⟩
def IsDs.inv_nil(r:IsDs K H [] vs):vs=[]:=by
 cases vs with
 |nil=>rfl
 |cons v c=>have:=r.len;simp at this
def IsDs.append(r:IsDs K H ds vs)(q:IsDs K H es ws):IsDs K H (ds++es) (vs++ws):=⟨by simp[r.len,q.len],λi d v h1 h2=>by
 by_cases a:i<ds.length
 ·rw[Ag a]at h1;rw[Ag (by rw[<-r.len];exact a)]at h2;exact r.at' i d v h1 h2
 ·rw[Au ⋯]at h1;rw[Au (by rw[<-r.len];lia),<-r.len]at h2;exact q.at' _ d v h1 h2⟩
theorem IsDs.drop(r:IsDs K H ds vs)n:IsDs K H (ds.drop n) (vs.drop n):=⟨by simp[r.len],λi d v h1 h2=>by
 rw[Ie]at h1 h2;exact r.at' _ d v h1 h2⟩
theorem IsDs.take(r:IsDs K H ds vs)n:IsDs K H (ds.take n) (vs.take n):=⟨by simp[r.len],λi d v h1 h2=>by
 rw[List.getElem?_take]at h1 h2
 split at h1
 ·rename_i a;rw[if_pos a]at h2;exact r.at' _ d v h1 h2
 ·cases h1⟩
theorem IsDs.set(r:IsDs K H ds vs)(h:IsD K H d v)n:IsDs K H (ds.set n d) (vs.set n v):=⟨by simp[r.len],λi e w h1 h2=>by
 rw[GD]at h1 h2
 by_cases a:n=i
 ·simp_all
 ·rw[if_neg a]at h1 h2;exact r.at' i e w h1 h2⟩
theorem IsDs.erase:∀{b}{a}(r:IsDs K H b a)n,IsDs K H (b.eraseIdx n) (a.eraseIdx n)
 |[],a,r,n=>by rw[r.inv_nil];simpa using IsDs.nil
 |d::b,a,r,n=>by
  obtain⟨v,h,rfl,g,f⟩:=r.inv_cons;cases n with
  |zero=>simp_all
  |succ n=>simpa using IsDs.cons g (IsDs.erase f n)
theorem IsDs.rev:∀{b}{a}(r:IsDs K H b a),IsDs K H b.reverse a.reverse
 |[],a,r=>r.inv_nil▸IsDs.nil
 |d::b,a,r=>by
  obtain⟨v,f,rfl,e,c⟩:=r.inv_cons;rw[CM,CM];exact(IsDs.rev c).append (IsDs.cons e IsDs.nil)
abbrev TK(K:AQ)(H H':Hp):Prop:=((∀a xs,SqT K H a xs->SqT K H' a xs)/\∀a xs,H a=AA (.tup xs)->H' a=AA (.tup xs))/\∀a o u,H a=AA (.frz o u)->(∀vs,u≠.lst vs)->H' a=AA (.frz o u)
def SqX.keep(h:SqX K H a xs)(k:TK K H H'):SqX K H' a xs:=h.elim (λh=>.inl (k.1.2 _ _ h)) λh=>.inr ⟨h.1,k.1.1 _ _ h.2⟩
def TK.refl:TK K H H:=⟨⟨λ_ _ h=>h,λ_ _ h=>h⟩,λ_ _ _ h _=>h⟩
def TK.trans(a:TK K H H')(b:TK K H' H2):TK K H H2:=⟨⟨λc xs h=>b.1.1 c xs (a.1.1 c xs h),λc xs h=>b.1.2 c xs (a.1.2 c xs h)⟩,λc o u h n=>b.2 c o u (a.2 c o u h n) n⟩
def TK.upd'(h:∀c,H p≠AA (.tup c))(e:∀o u,H p≠AA (.frz o u)):TK K H (upd H p o):=⟨⟨λa c q=>by
 rcases q with(q|⟨d,q⟩)|q
 ·exact .inl (.inl (by have b:a≠p:=(λz=>h c (by rw[<-z];exact q));rw[j7 b];exact q))
 ·exact .inl (.inr ⟨d,by have b:a≠p:=(λz=>e _ _ (by rw[<-z];exact q));rw[j7 b];exact q⟩)
 ·exact .inr q,λa c q=>by have b:a≠p:=(λz=>h c (by rw[<-z];exact q));rw[j7 b];exact q⟩,λa d u q n=>by have b:a≠p:=(λz=>e _ _ (by rw[<-z];exact q));rw[j7 b];exact q⟩
def TK.new(h:H p=AD):TK K H (upd H p o):=TK.upd' (by simp_all) (by grind)
def TK.putI{C dx}{xs}(h:H p=AA (.ins C dx xs)):TK K H (upd H p o):=TK.upd' (by simp_all) (by grind)
def TK.putD{xs}(h:H p=AA (.dK xs)):TK K H (upd H p o):=TK.upd' (by simp_all) (by grind)
def TK.put(h:H p=AA (.lst xs)):TK K H (upd H p o):=TK.upd' (by simp_all) (by grind)
def Q7.mono{cv}(h:Q7 H cv)(k:TK K H H'):Q7 H' cv:=let⟨c,o,u,b,q,t,f,e,a,d⟩:=h;⟨c,o,u,b,q,t,f,k.2 _ _ _ e a,a,d⟩
theorem CloR.mono{f}{fd}{np}{N}{us}(h:CloR H f fd np N us)(k:TK K H H'):CloR H' f fd np N us:=by
 obtain⟨⟨o,u,q,g,p⟩,n,m,l⟩:=h;refine⟨⟨o,u,k.2 _ _ _ q g,g,p⟩,n.mono k,λx c hx=>?_,λi v hv=>?_⟩
 ·obtain⟨e,d,w,a,b,c⟩:=m x c hx;exact⟨e,d,w,k.2 _ _ _ a b,b,c⟩
 ·obtain⟨x,c,e,d,w,y,t,s,j,r⟩:=l i v hv;exact⟨x,c,e,d,w,y,t,k.2 _ _ _ s j,j,r⟩
theorem ad2.mono{f}{np}{N}{b}{us}(h:ad2 H f np N b us)(k:TK K H H'):ad2 H' f np N b us:=let⟨d,c,a,b⟩:=h;⟨d,c,a,b.mono k⟩
theorem IsD.mono(h:IsD K H d v)(k:TK K H H'):IsD K H' d v:=by
 induction h with
 |non=>exact .non
 |bl b=>exact .bl b
 |int i=>exact .int i
 |str x=>exact .str x
 |ref a=>exact .ref a
 |ktup h=>exact .ktup h
 |fn h=>exact .fn h
 |clo a b _ c=>exact .clo (a.mono k) b c
 |tup a b _ c=>exact .tup (a.keep k) b c
theorem IsDs.mono(h:IsDs K H ds vs)(k:TK K H H'):IsDs K H' ds vs:=⟨h.len,λi d v a b=>(h.at' i d v a b).mono k⟩
structure RelE(K:AQ)(H:Hp)(env:j8)(σ:L2.St):Prop where
 len:env.length=σ.length
 at':∀(i:Nat)d,env[i]?=AA (AA d)->∃v,σ[i]?=AA (AA v)/\IsD K H d v
variable {env:j8} {st':Sto}
theorem RelE.mono(r:RelE K H env σ)(k:TK K H H'):RelE K H' env σ:=⟨r.len,λi d h=>let⟨v,a,b⟩:=r.at' i d h;⟨v,a,b.mono k⟩⟩
theorem RelE.set(r:RelE K H env σ)(h:IsD K H d v)i:RelE K H (env.set i (AA d)) (σ.set i (AA v)):=⟨by simp[r.len],λj e q=>by
 rw[GD]at q ⊢
 by_cases a:i=j
 ·rw[if_pos a]at q ⊢
  split at q
  ·rename_i b;rw[<-r.len,if_pos b];cases q;exact⟨v,rfl,h⟩
  ·cases q
 ·rw[if_neg a]at q ⊢;exact r.at' j e q⟩
structure IsKs(K:AQ)(H:Hp)(kvs:List (Key×D))(vs:List (Key×V)):Prop where
 ks:kvs.map (·.1)=vs.map (·.1)
 ds:IsDs K H (kvs.map (·.2)) (vs.map (·.2))
theorem IsKs.mono{kvs}{vs}(h:IsKs K H kvs vs)(k:TK K H H'):IsKs K H' kvs vs:=⟨h.ks,h.ds.mono k⟩
theorem IsKs.inv_cons{e}{kvs}{vs}(h:IsKs K H (e::kvs) vs):∃v a,vs=(e.1,v)::a/\IsD K H e.2 v/\IsKs K H kvs a:=by
 cases vs with
 |nil=>have:=h.ks;simp at this
 |cons f a=>
  obtain⟨k,v⟩:=f;have b:=h.ks;simp at b;have m:=h.ds;obtain⟨n,g,c,l,j⟩:=m.inv_cons;simp at c;obtain⟨rfl,rfl⟩:=c;exact⟨v,a,by rw[b.1],l,b.2,j⟩
theorem IsKs.look:∀{a:List (Key×D)}{b:List (Key×V)}(h:IsKs K H a b)(k:Key),(G6 a k=AD/\r8 b k=AD)\/∃d v,G6 a k=AA d/\r8 b k=AA v/\IsD K H d v
 |[],b,h,k=>by
  have:b=[]:=by have:=h.ks;simpa using this.symm
  subst this;exact .inl ⟨rfl,rfl⟩
 |e::a,b,h,k=>by
  obtain⟨v,g,rfl,i,c⟩:=h.inv_cons;unfold G6 r8;rw[CJ,CJ]
  by_cases f:e.1=k
  ·simp_all
  ·simp only[f,decide_false];exact IsKs.look c k
structure IsPs(K:AQ)(H:Hp)(kvs:List (Ak×D))(vs:List (Ak×V)):Prop where
 ks:kvs.map (·.1)=vs.map (·.1)
 ds:IsDs K H (kvs.map (·.2)) (vs.map (·.2))
theorem IsPs.nil:IsPs K H [] []:=⟨rfl,.nil⟩
theorem IsPs.mono{vs}(h:IsPs K H kvs vs)(k:TK K H H'):IsPs K H' kvs vs:=⟨h.ks,h.ds.mono k⟩
theorem IsPs.inv_cons{e}{vs}(h:IsPs K H (e::kvs) vs):∃v a,vs=(e.1,v)::a/\IsD K H e.2 v/\IsPs K H kvs a:=by
 cases vs with
 |nil=>have:=h.ks;simp at this
 |cons f a=>
  obtain⟨k,v⟩:=f;have b:=h.ks;simp at b;have m:=h.ds;obtain⟨n,g,c,l,j⟩:=m.inv_cons;simp at c;obtain⟨rfl,rfl⟩:=c;exact⟨v,a,by rw[b.1],l,b.2,j⟩
theorem IsPs.cons{k}{d}{vs}(i:IsD K H d v)(h:IsPs K H kvs vs):IsPs K H ((k,d)::kvs) ((k,v)::vs):=⟨by simp[h.ks],by simpa using IsDs.cons i h.ds⟩
theorem IsPs.look:∀{a}{b}(h:IsPs K H a b)k,(E7 a k=AD/\r8 b k=AD)\/∃d v,E7 a k=AA d/\r8 b k=AA v/\IsD K H d v
 |[],b,h,k=>by
  have:=by have:=h.ks;simpa using this.symm
  subst this;exact .inl ⟨rfl,rfl⟩
 |e::a,b,h,k=>by
  obtain⟨v,g,rfl,i,c⟩:=h.inv_cons;unfold E7 r8;rw[CJ,CJ]
  by_cases f:e.1=k
  ·simp_all
  ·simp only[f,decide_false];exact IsPs.look c k
theorem IsPs.any:∀{a}{b}(h:IsPs K H a b)(k:Ak),(a.any λkv=>AE (kv.1=k))=(b.any λkv=>AE (kv.1=k))
 |[],b,h,k=>by
  have:=by have:=h.ks;simpa using this.symm
  subst this;rfl
 |e::a,b,h,k=>by
  obtain⟨v,d,rfl,f,c⟩:=h.inv_cons;rw[Fs,Fs,IsPs.any c k]
theorem IsPs.repl{d}(i:IsD K H d v)(k:Ak):∀{a}{b}(h:IsPs K H a b),IsPs K H (a.map λkv=>if kv.1=k then(kv.1,d)else kv) (b.map λkv=>if kv.1=k then(kv.1,v)else kv)
 |[],b,h=>by
  have:=by have:=h.ks;simpa using this.symm
  subst this;exact .nil
 |e::a,b,h=>by
  obtain⟨u,j,rfl,g,f⟩:=h.inv_cons;obtain⟨x,y⟩:=e;rw[AZ,AZ];by_cases c:x=k
  ·rw[if_pos c,if_pos c];exact IsPs.cons i (IsPs.repl i k f)
  ·rw[if_neg c,if_neg c];exact IsPs.cons g (IsPs.repl i k f)
theorem IsPs.snoc{d}(i:IsD K H d v)k:∀{a}{b}(h:IsPs K H a b),IsPs K H (a++[(k,d)]) (b++[(k,v)])
 |[],b,h=>by
  have:=by have:=h.ks;simpa using this.symm
  subst this;exact IsPs.cons i .nil
 |e::a,b,h=>by
  obtain⟨u,g,rfl,f,c⟩:=h.inv_cons;exact IsPs.cons f (IsPs.snoc i k c)
def IsPs.put{vs}(h:IsPs K H kvs vs){d}(i:IsD K H d v)k:IsPs K H (Y7 kvs k d) (A6 vs k v):=by
 unfold Y7 A6;rw[h.any k]
 by_cases q:(vs.any λkv=>AE (kv.1=k))=AC
 ·rw[if_pos q,if_pos q];exact IsPs.repl i k h
 ·rw[if_neg q,if_neg q];exact IsPs.snoc i k h
def IsPs.len{vs}(h:IsPs K H kvs vs):=by
 have:=congrArg CB h.ks;simpa using this
structure IsFs(K:AQ)(H:Hp)(fs:List (Str×D))(vs:List (Str×V)):Prop where
 ks:fs.map (·.1)=vs.map (·.1)
 ds:IsDs K H (fs.map (·.2)) (vs.map (·.2))
theorem IsFs.nil:IsFs K H [] []:=⟨rfl,.nil⟩
theorem IsFs.mono{fs}{vs}(h:IsFs K H fs vs)(k:TK K H H'):IsFs K H' fs vs:=⟨h.ks,h.ds.mono k⟩
theorem IsFs.inv_cons{e}{fs}{vs}(h:IsFs K H (e::fs) vs):∃v a,vs=(e.1,v)::a/\IsD K H e.2 v/\IsFs K H fs a:=by
 cases vs with
 |nil=>have:=h.ks;simp at this
 |cons f a=>
  obtain⟨k,v⟩:=f;have b:=h.ks;simp at b;have m:=h.ds;obtain⟨n,g,c,l,j⟩:=m.inv_cons;simp at c;obtain⟨rfl,rfl⟩:=c;exact⟨v,a,by rw[b.1],l,b.2,j⟩
theorem IsFs.cons{k}{d}{fs}{vs}(h:IsD K H d v)(r:IsFs K H fs vs):IsFs K H ((k,d)::fs) ((k,v)::vs):=⟨by simp only[AZ,r.ks],by exact .cons h r.ds⟩
theorem IsFs.length{fs}{vs}(h:IsFs K H fs vs):fs.length=vs.length:=by simpa using h.ds.len
theorem IsFs.look:∀{b}{a}(h:IsFs K H b a)(k:Str),(b.lookup k=AD/\a.lookup k=AD)\/∃d v,b.lookup k=AA d/\a.lookup k=AA v/\IsD K H d v
 |[],a,h,k=>by
  have:a=[]:=by have:=h.ks;simpa using this.symm
  subst this;exact .inl ⟨rfl,rfl⟩
 |e::b,a,h,k=>by
  obtain⟨v,i,rfl,f,c⟩:=h.inv_cons;obtain⟨g,d⟩:=e;rw[EJ,EJ];cases hk:k==g with
  |true=>exact .inr ⟨d,v,rfl,rfl,f⟩
  |false=>exact IsFs.look c k
theorem IsFs.put:∀{c}{a}(h:IsFs K H c a){d}{v}(i:IsD K H d v)f,IsFs K H (l9 f d c) (B2 f v a)
 |[],a,h,d,v,i,f=>by
  have:=by have:=h.ks;simpa using this.symm
  subst this;exact .cons i .nil
 |e::c,a,h,d,v,i,f=>by
  obtain⟨w,l,rfl,k,j⟩:=h.inv_cons;obtain⟨g,x⟩:=e;unfold l9 B2
  by_cases b:g=f
  ·rw[if_pos b,if_pos b];exact .cons i j
  ·rw[if_neg b,if_neg b];exact .cons k (IsFs.put j i f)
abbrev ObR(K:AQ)(H:Hp)(a:AH):Ob->Prop
 |.lst ds=>∃vs,H a=AA (.lst vs)/\IsDs K H ds vs
 |.fro ds=>∃vs,Rd H a (.lst vs)/\IsDs K H ds vs
 |.dct kvs=>∃vs,H a=AA (.dK vs)/\IsKs K H kvs vs
 |.dtt kvs=>∃vs,H a=AA (.dT vs)/\IsPs K H kvs vs/\Tbs.kt=AF
 |.ins c fs=>∃C dx vs,H a=AA (.ins C dx vs)/\BJ K AO c=AA (AA (.ref C))/\IsFs K H fs vs
structure TabOk(H:Hp)(ps:Array AG):Prop where
 tr:EX ps.toList
 co:∀pos cv,GE pos ps.toList=AA cv->Q7 H cv
abbrev ah5(H:Hp):Prop:=∀P∈Tbs.ps,∃ps,H P=AA (.tbl ps)/\TabOk H ps
def ah5.stay(h:ah5 H)(k:TK K H H')(t:∀a b,H a=AA (.tbl b)->H' a=AA (.tbl b)):ah5 H':=λP hP=>by
 obtain⟨b,e,o⟩:=h P hP;exact⟨b,t P b e,o.tr,λpos cv hc=>(o.co pos cv hc).mono k⟩
structure RelS(K:AQ)(st:Sto)(H:Hp):Prop where
 ob:∀a o,st a=AA o->ObR K H a o
 tb:ah5 H
def RelS.free(r:RelS K st H)(h:H p=AD):st p=AD:=by
 cases q:st p with
 |none=>rfl
 |some o=>
  have z:=r.ob p o q;cases o with
  |lst j=>obtain⟨b,a,_⟩:=z;rw[h]at a;cases a
  |fro j=>
   obtain⟨b,a|⟨l,a⟩,_⟩:=z
   ·simp_all
   ·simp_all
  |dct d=>obtain⟨b,a,_⟩:=z;rw[h]at a;cases a
  |dtt d=>obtain⟨b,a,_⟩:=z;rw[h]at a;cases a
  |ins c m=>obtain⟨C,n,b,a,_⟩:=z;rw[h]at a;cases a
def RelS.sub(r:RelS K st' H)(s:Sub st st'):RelS K st H:=⟨λa o h=>r.ob a o (s a o h),r.tb⟩
theorem RelS.stay(r:RelS K st H)(k:TK K H H')(l:∀a o,st a=AA o->H' a=H a)(t:∀a f,H a=AA (.tbl f)->H' a=AA (.tbl f)):RelS K st H':=⟨λa o h=>by
 have z:=r.ob a o h;have e:=l a o h;cases o with
 |lst u=>obtain⟨b,q,w⟩:=z;exact⟨b,by rw[e];exact q,w.mono k⟩
 |fro u=>
  obtain⟨b,q|⟨g,q⟩,w⟩:=z
  ·exact⟨b,.inl (by rw[e];exact q),w.mono k⟩
  ·exact⟨b,.inr ⟨g,by rw[e];exact q⟩,w.mono k⟩
 |dct d=>obtain⟨b,q,w⟩:=z;exact⟨b,by rw[e];exact q,w.mono k⟩
 |dtt d=>obtain⟨b,q,w,t⟩:=z;exact⟨b,by rw[e];exact q,w.mono k,t⟩
 |ins c x=>obtain⟨C,p,b,q,n,w⟩:=z;exact⟨C,p,b,by rw[e];exact q,n,w.mono k⟩,r.tb.stay k t⟩
def ah0(h:∀b,H p≠AA (.tbl b)):∀a b,H a=AA (.tbl b)->upd H p o a=AA (.tbl b):=λa b e=>by
 have c:a≠p:=λz=>h b ((z▸e));rwa[j7 c]
def b79(h:H p=AD):∀a b,H a=AA (.tbl b)->upd H p o a=AA (.tbl b):=ah0 (by grind)
theorem RelS.new(r:RelS K st H)(h:H p=AD):RelS K st (upd H p o):=r.stay (TK.new h) (λa u e=>j7 λz=>by
 rw[z,r.free h]at e;cases e) (b79 h)
def RelS.putAny(r:RelS K st H){o'}(tk:TK K H (upd H p o'))(w:ObR K (upd H p o') p ob)(t:∀g,H p≠AA (.tbl g)):RelS K (c9 st p ob) (upd H p o'):=by
 have f:RelS K (λb=>if b=p then AD else st b) H:=⟨λb u q=>by
  split at q
  ·cases q
  ·exact r.ob b u q,r.tb⟩
 have d:=f.stay tk (λb u q=>j7 λz=>by
  grind) (ah0 t)
 refine⟨λa o e=>?_,d.tb⟩
 by_cases c:a=p
 ·subst c;rw[f6]at e;cases e;exact w
 ·rw[G1 c]at e;exact d.ob a o (by rwa[if_neg c])
def RelS.putNew(r:RelS K st H)(h:H p=AD)(w:IsDs K H ds vs):RelS K (c9 st p (.lst ds)) (upd H p (.lst vs)):=
 r.putAny (TK.new h) ⟨vs,p8,w.mono (TK.new h)⟩ (by simp_all)
def RelS.putOld(r:RelS K st H)(h:H p=AA (.lst xs))(w:IsDs K H ds vs):RelS K (c9 st p (.lst ds)) (upd H p (.lst vs)):=
 r.putAny (TK.put h) ⟨vs,p8,w.mono (TK.put h)⟩ (by grind)
theorem RelS.lst(r:RelS K st H)(h:st a=AA (.lst ds)):∃b,H a=AA (.lst b)/\IsDs K H ds b:=r.ob a _ h
theorem RelS.dct(r:RelS K st H){kvs}(h:st a=AA (.dct kvs)):∃b,H a=AA (.dK b)/\IsKs K H kvs b:=r.ob a _ h
theorem RelS.ins(r:RelS K st H){c}{fs}(h:st a=AA (.ins c fs)):∃C d b,H a=AA (.ins C d b)/\BJ K AO c=AA (AA (.ref C))/\IsFs K H fs b:=r.ob a _ h
def RelS.rd(r:RelS K st H)(h:rdS st a ds):∃c,SqL K H a c/\IsDs K H ds c:=by
 rcases h with h|h
 ·obtain⟨c,a,b⟩:=r.ob a _ h;exact⟨c,.inl (.inl a),b⟩
 ·obtain⟨c,a,b⟩:=r.ob a _ h;exact⟨c,.inl a,b⟩
end
abbrev TbE(o o':HO):Prop:=o'=o\/∃p p',o=.tbl p/\o'=.tbl p'
def TbE.trans{a b c}(x:TbE a b)(y:TbE b c):TbE a c:=by
 rcases x with rfl|⟨p,e,rfl,rfl⟩
 ·exact y
 ·rcases y with rfl|⟨q,d,_,rfl⟩
  ·exact .inr ⟨p,e,rfl,rfl⟩
  ·exact .inr ⟨p,d,rfl,rfl⟩
abbrev Ev(st:Sto)(H:Hp)(st':Sto)(H':Hp):Prop:=∀a o,H a=AA o->st a=AD->(∃o',H' a=AA o'/\TbE o o')/\st' a=AD
section
variable {K:AQ} {st1 st2:Sto} {H1 H2:Hp}
def Ev.get(e:Ev st H st1 H1)(h:H a=AA o)(k:st a=AD)(n:∀p,o≠.tbl p):H1 a=AA o/\st1 a=AD:=by
 obtain⟨⟨d,c,t⟩,b⟩:=e a o h k
 rcases t with rfl|⟨p,_,rfl,_⟩
 ·exact⟨c,b⟩
 ·exact absurd rfl (n p)
def Ev.refl:Ev st H st H:=λ_ o h k=>⟨⟨o,h,.inl rfl⟩,k⟩
theorem Ev.trans(a:Ev st H st1 H1)(b:Ev st1 H1 st2 H2):Ev st H st2 H2:=λc o h k=>by
 obtain⟨⟨f,i,t⟩,y⟩:=a c o h k;obtain⟨⟨e,g,d⟩,z⟩:=b c f i y;exact⟨⟨e,g,t.trans d⟩,z⟩
def RelS.no(r:RelS K st H)(h:H a=AA o)(l:∀b,o≠.lst b)(v:∀u b,o≠.frz u (.lst b))(k:∀b,o≠.dK b)(j:∀C f b,o≠.ins C f b)(i:∀b,o≠.dT b):st a=AD:=by
 cases z:st a with
 |none=>rfl
 |some g=>
  have w:=r.ob a g z;cases g with
  |lst s=>obtain⟨b,d,_⟩:=w;rw[h]at d;cases d;exact absurd rfl (l b)
  |fro s=>
   obtain⟨b,d|⟨u,d⟩,_⟩:=w
   ·grind
   ·grind
  |dct e=>obtain⟨b,d,_⟩:=w;rw[h]at d;cases d;exact absurd rfl (k b)
  |dtt e=>obtain⟨b,d,_⟩:=w;rw[h]at d;cases d;exact absurd rfl (i b)
  |ins c x=>obtain⟨C,f,b,d,_⟩:=w;rw[h]at d;cases d;exact absurd rfl (j C f b)
def Ev.tk(e:Ev st H st1 H1)(r:RelS K st H):TK K H H1:=⟨⟨λa xs q=>by
 rcases q with(q|⟨a,q⟩)|q
 ·exact .inl (.inl (e.get q (r.no q (λ_ z=>by cases z) (λ_ _ z=>by cases z) (λ_ z=>by cases z) (λ_ _ _ z=>by cases z) (λ_ z=>by cases z)) (λ_ z=>by cases z)).1)
 ·exact .inl (.inr ⟨a,(e.get q (r.no q (λ_ z=>by cases z) (λ_ _ z=>by cases z) (λ_ z=>by cases z) (λ_ _ _ z=>by cases z) (λ_ z=>by cases z)) (λ_ z=>by cases z)).1⟩)
 ·exact .inr q,λa xs q=>(e.get q (r.no q (λ_ z=>by cases z) (λ_ _ z=>by cases z) (λ_ z=>by cases z) (λ_ _ _ z=>by cases z) (λ_ z=>by cases z)) (λ_ z=>by cases z)).1⟩,λa o u q n=>(e.get q (r.no q (λ_ z=>by cases z) (λ_ vs z=>by grind) (λ_ z=>by cases z) (λ_ _ _ z=>by cases z) (λ_ z=>by cases z)) (λ_ z=>by cases z)).1⟩
def Ev.new(h:H p=AD):Ev st H st (upd H p o):=λa u e k=>⟨⟨u,j7 (z5 e h)▸e,.inl rfl⟩,k⟩
def Ev.newS(h:H p=AD):Ev st H (c9 st p ob) (upd H p o):=λa u e k=>⟨⟨u,j7 (z5 e h)▸e,.inl rfl⟩,G1 (z5 e h)▸k⟩
def Ev.put{ob'}(h:st p=AA ob'):Ev st H (c9 st p ob) (upd H p o):=λa u e k=>by
 have b:a≠p:=λz=>by grind
 exact⟨⟨u,j7 b▸e,.inl rfl⟩,G1 b▸k⟩
def Ev.drop(s:Sub st2 st1)(e:Ev st H st1 H1):Ev st H st2 H1:=λa o h k=>by
 obtain⟨x,y⟩:=e a o h k;refine⟨x,?_⟩;cases z:st2 a with
 |none=>rfl
 |some u=>rw[s a u z]at y;cases y
end
abbrev w6(K:AQ)(st:Sto)(H:Hp)(Qd:DK)(Q:VK):Prop:=∀v d H' st',Ev st H st' H'->IsD K H' d v->RelS K st' H'->Qd d st'->Q v H'
abbrev up(K:AQ)(t:DT):TE:=λσ H Q=>∃env st Qd,RelE K H env σ/\RelS K st H/\t env st Qd/\w6 K st H Qd Q
abbrev upB(K:AQ)(t:DB):TT:=λσ H Q=>∃env st Qd,RelE K H env σ/\RelS K st H/\t env st Qd/\∀b H' st',Ev st H st' H'->RelS K st' H'->Qd b st'->Q b H'
abbrev upA(K:AQ)(n:Nat)(t:DA):TA:=λσ H Q=>∃env st Qd,RelE K H env σ/\RelS K st H/\t env st Qd/\∀vs ds H' st',Ev st H st' H'->IsDs K H' ds vs->ds.length=n->RelS K st' H'->Qd ds st'->Q vs H'
def _root_.L2.PE.imp{t t'}(h:PE X x t)(i:∀a H Q,t' a H Q->t a H Q):PE X x t':=λpins s a H Q I q=>h pins s a H Q I (i a H Q q)
def _root_.L2.PT.imp{t t'}(h:PT X x t)(i:∀a H Q,t' a H Q->t a H Q):PT X x t':=λpins s a H Q I q=>h pins s a H Q I (i a H Q q)
def _root_.L2.PW.imp{t t'}(h:PW X x t)(i:∀a H Q,t' a H Q->t a H Q):PW X x t':=λw pins s a H Q I q=>h w pins s a H Q I (i a H Q q)
def _root_.L2.PA.imp{x}{t t'}(h:PA X x t)(i:∀a H Q,t' a H Q->t a H Q):PA X x t':=λpos pins s a H Q I q=>h pos pins s a H Q I (i a H Q q)
def _root_.L2.PSs.imp{x}{t t'}(h:PSs X x t)(i:∀D a H,t' D a H->t D a H):PSs X x t':=λpins s a H D I q=>h pins s a H D I (i D a H q)
def _root_.L2.PS.imp{x}{t t'}(h:PS X x t)(i:∀D a H,t' D a H->t D a H):PS X x t':=λpins s a H D I q=>h pins s a H D I (i D a H q)
def w6.after{K}{st1}{H1}(p:w6 K st H Qd Q)(e:Ev st H st1 H1):w6 K st1 H1 Qd Q:=λv d H2 st2 e2=>p v d H2 st2 (e.trans e2)
def w6.here{K}{d}(p:w6 K st H Qd Q)i(r)q:=p v d H st Ev.refl i r q
def w6.newL{K}(p:w6 K st H Qd Q)(r:RelS K st H)(w:IsDs K H ds vs)(q:∀p,st p=AD->Qd (.ref p) (c9 st p (.lst ds))):∀l,H l=AD->Q (.ref l) (upd H l (.lst vs)):=λl hl=>
 p _ (.ref l) _ (c9 st l (.lst ds)) (Ev.newS hl) (.ref l) (r.putNew hl w) (q l (r.free hl))
def w6.newT{K}(p:w6 K st H Qd Q)(r:RelS K st H)(w:IsDs K H ds vs)(q:Qd (.tup ds) st):∀l,H l=AD->Q (.ref l) (upd H l (.tup vs)):=λl hl=>
 p _ (.tup ds) _ st (Ev.new hl) (IsD.mk (SqX.of p8) (w.mono (TK.new hl))) (r.new hl) q
def up1{K}{t}{f:D->Sto->DK->Prop}{R:V->Hp->Prop}(h:up K (λenv g Q=>t env g λd st1=>f d st1 Q) σ H Q)
  (k:∀v d b a e,IsD K b d v->RelS K a b->f d a e->w6 K a b e Q->R v b):up K t σ H R:=by
 obtain⟨env,g,e,m,l,i,j⟩:=h;exact⟨env,g,_,m,l,i,λv d b a ev is rs q=>k v d b a e is rs q (j.after ev)⟩
def up2{K}{t u}{f:D->D->Sto->DK->Prop}{R:V->V->Hp->Prop}(h:up K (λenv i Q=>t env i λd st1=>u env st1 λe st2=>f d e st2 Q) σ H Q)
  (k:∀v w d e c a g,IsD K c d v->IsD K c e w->RelS K a c->f d e a g->w6 K a c g Q->R v w c):up K t σ H λv H1=>up K u σ H1 λw H2=>R v w H2:=by
 obtain⟨env,i,g,l,j,m,n⟩:=h;exact⟨env,i,_,l,j,m,λv d c a ev is rs q=>⟨env,a,_,l.mono (ev.tk j),rs,q,λw e H2 st2 ev2 is2 rs2 q2=>
  k v w d e H2 st2 g (is.mono (ev2.tk rs)) is2 rs2 q2 ((n.after ev).after ev2)⟩⟩
def ay7{K}{n}{t}{f:List D->Sto->DK->Prop}{R}(h:up K (λenv i Q=>t env i λds st1=>f ds st1 Q) σ H Q)
  (k:∀vs ds c a e,IsDs K c ds vs->ds.length=n->RelS K a c->f ds a e->w6 K a c e Q->R vs c):upA K n t σ H R:=by
 obtain⟨env,i,e,o,m,j,l⟩:=h;exact⟨env,i,_,o,m,j,λvs ds c a ev is hl rs q=>k vs ds c a e is hl rs q (l.after ev)⟩
def c01{t}(h:PE X x (up X.K t))(i:∀a,Hy x X.env a=do let v <-a;Hm x.pos;holding [v] (truthy v)):
  PT X x (upB X.K λenv e Q=>t env e λd st'=>∃b,d=.bl b/\Q b st'):=PT.imp (cm5 h i) λσ H Q q=>by
 obtain⟨env,e,l,k,j,f,g⟩:=q;refine⟨env,e,_,k,j,f,λv d H' st' ev is rs q=>?_⟩;obtain⟨b,rfl,q⟩:=q;cases is;exact⟨b,rfl,g b H' st' ev rs q⟩
end Ek
namespace Ek
open PySem PySem.Spec PyProof.Rows L2
variable [Tbs]
mutual
theorem G5:∀d:D,d.pure=AC->d.py.canLay0=AC
 |.non,_=>rfl
 |.bl _,_=>rfl
 |.int _,_=>rfl
 |.str _,h=>h
 |.tup ds,h=>by show DP (D.pys ds)=AC;exact S7 ds h
 |.ref _,h=>nomatch h
 |.fn _,h=>nomatch h
 |.clo _ _ _ _,h=>nomatch h
 |.ktup _,h=>nomatch h
theorem S7:∀ds:List D,D.pures ds=AC->DP (D.pys ds)=AC
 |[],_=>rfl
 |d::r,h=>by
  have h':d.pure=AC/\D.pures r=AC:=by simpa[D.pures]using h
  show(d.py.canLay0&&DP (D.pys r))=AC;rw[G5 d h'.1,S7 r h'.2];rfl
end
theorem af1:∀{a},D.pures a=AC->∀d∈a,d.pure=AC
 |[],_,d,h=>by cases h
 |e::r,h,d,b=>by
  have c:=by simpa[D.pures]using h
  rcases AK.mp b with z|z
  ·simp_all
  ·exact af1 c.2 d z
section
variable {X:Cx} {pins:List (AH×Obj)} {σ:L2.St} {H:Hp} {s:AJ}
theorem az8{P:D->Prop}(g:∀d v u,P d->IsD X.K H d v->i8 v u->∃b,Reads s.heap u d.py b):∀a(c)f,(∀d∈a,P d)->IsDs X.K H a c->i6 c f->∃b,ReadsAll s.heap f (D.pys a) b
 |[],c,f,_,r,q=>by rw[r.inv_nil]at q;cases q;exact⟨[],.nil⟩
 |d::a,c,f,h,r,q=>by
  obtain⟨v,j,rfl,p,o⟩:=r.inv_cons;cases q with
  |cons n m=>
   obtain⟨b,l⟩:=g d v _ (h d ∎) p n;obtain⟨t,k⟩:=az8 g a j _ (λe he=>h e (by simp[he])) o m;exact⟨b++t,.cons l k⟩
def E3(I:L2.Inv X pins σ H s){d:D}{v:V}(h:IsD X.K H d v):∀{u:AG},d.pure=AC->i8 v u->∃l,Reads s.heap u d.py l:=by
 induction h with
 |non=>intro u _ r;cases r;exact⟨_,.none⟩
 |bl b=>intro u _ r;cases r;exact⟨_,.bool b⟩
 |int i=>intro u _ r;obtain⟨t,rfl⟩:=r;exact⟨_,.int i t⟩
 |str x=>intro u _ r;obtain⟨t,rfl⟩:=r;exact⟨_,.str x t⟩
 |ref a=>intro u h;cases h
 |fn _=>intro u h;cases h
 |clo _ _ _ _=>intro u h;cases h
 |ktup _=>intro u h;cases h
 |@tup a ds J U Z hat T=>
  intro u W r;cases r;obtain⟨A,M,⟨o,Y,hc,n,hd⟩,hz⟩:=I.tuple U.sqt;have E:∀(f:List D)(c:List V)(j:List AG),(∀(i:Nat)d v,f[i]?=AA d->c[i]?=AA v->∀{u:AG},d.pure=AC->i8 v u->∃l,Reads s.heap u d.py l)->f.length=c.length->D.pures f=AC->i6 c j->∃l,ReadsAll s.heap j (D.pys f) l:=by
   intro f
   induction f with
   |nil=>intro c j _ k _ q;cases c with
    |nil=>cases q;exact⟨[],.nil⟩
    |cons a b=>simp at k
   |cons e es B=>
    intro c j m k C q;cases c with
    |nil=>simp at k
    |cons w G=>
     have y:e.pure=AC/\D.pures es=AC:=by simpa[D.pures]using C
     cases q with
     |cons Q P=>
      obtain⟨l,z⟩:=m 0 e w rfl rfl y.1 Q;obtain⟨bs,O⟩:=B G _ (λi d v a b=>m (i+1) d v (by simpa using a) (by simpa using b)) (by simpa using k) y.2 P;exact⟨l++bs,.cons z O⟩
  obtain⟨l,z⟩:=E ds J A T Z W M;exact⟨l,.tuple Y hc hd (by simpa using z)⟩
def bc9{A:BW}{a b}(c:A.units+200<Bv)(h:EW a b<=150):A.units+min a b<Bv:=by
 lia
def cl9(k:X.A.units+200<Bv):OpR X (By .Eq) λx y H Q=>∃d e,IsD X.K H d x/\IsD X.K H e y/\d.pure=AC/\e.pure=AC/\EW (l8 d) (l8 e)<=150/\Q (.bl (deq d e)) H:=by
 intro a s o H x y v u Q I g f h;obtain⟨d,e,n,m,c,b,l,q⟩:=h;obtain⟨r,j⟩:=E3 I n c g;obtain⟨p,i⟩:=E3 I m b f;exact Iy j i (G5 d c) (G5 e b) (bc9 k l) X.prog X.w _ _ ⟨.bl (deq d e),H,I,rfl,q⟩
def cy4(k:X.A.units+200<Bv):OpR X (By .NotEq) λx y H Q=>∃d e,IsD X.K H d x/\IsD X.K H e y/\d.pure=AC/\e.pure=AC/\EW (l8 d) (l8 e)<=150/\Q (.bl (!deq d e)) H:=by
 intro a s o H x y v u Q I g f h;obtain⟨d,e,n,m,c,b,l,q⟩:=h;obtain⟨r,j⟩:=E3 I n c g;obtain⟨p,i⟩:=E3 I m b f;exact IV j i (G5 d c) (G5 e b) (bc9 k l) X.prog X.w _ _ ⟨.bl !deq d e,H,I,rfl,q⟩
theorem ah4:∀a(x),((D.pys a).any λy=>Av y x.py)=a.any λy=>deq y x
 |[],_=>rfl
 |d::r,x=>by
  show(Av d.py x.py||(D.pys r).any _)=(deq d x||r.any _);rw[ah4 r x];rfl
def ab6{A:BW}{a b}(c:A.units+200<Bv)(h:b<=150):A.units+1+min a b<Bv:=by
 have:min a b<=b:=Gv _ _;lia
def bi2(m:X.A.units+200<Bv):OpR X (By .In) λx y H Q=>∃d a,IsD X.K H d x/\IsD X.K H (.tup a) y/\d.pure=AC/\D.pures a=AC/\l8 d<=150/\Q (.bl (a.any λe=>deq e d)) H:=by
 intro c s r H x y v u Q I j i h;obtain⟨d,a,p,o,g,f,n,q⟩:=h;obtain⟨w,l⟩:=E3 I p g j;obtain⟨t,k⟩:=E3 I o f i;have b:=k;exact SeqAt.in_tuple_reads b l (S7 a f) (G5 d g) (ab6 m n) (by rw[ah4];exact⟨.bl _,H,I,rfl,q⟩)
def ci0(m:X.A.units+200<Bv):OpR X (By .NotIn) λx y H Q=>∃d a,IsD X.K H d x/\IsD X.K H (.tup a) y/\d.pure=AC/\D.pures a=AC/\l8 d<=150/\Q (.bl (!a.any λe=>deq e d)) H:=by
 intro c s r H x y v u Q I j i h;obtain⟨d,a,p,o,g,f,n,q⟩:=h;obtain⟨w,l⟩:=E3 I p g j;obtain⟨t,k⟩:=E3 I o f i;have b:=k;exact SeqAt.notIn_tuple_reads b l (S7 a f) (G5 d g) (ab6 m n) (by rw[ah4];exact⟨.bl _,H,I,rfl,q⟩)
end
end Ek
namespace Ek
open PySem PySem.Spec PyProof.Rows L2
variable [Tbs]
variable{x:AS}{v:V}{i:Int}{es:List AS}{n:Nat}{H:Hp}{o:Dw}
section
variable {X:Cx} {a b c:AS} {ta tb tc:DT} {pos:Pos}
def aj2{d}(h:PE X x (tC v))(i:∀H,IsD X.K H d v):PE X x (up X.K λ_ a Q=>Q d a):=PE.imp h λσ H Q q=>by
 obtain⟨f,a,j,g,e,b,c⟩:=q;exact c.here (i H) e b
def cl3{i:Nat}{x}(l:X.N[i]?=AA x)(f:Vis X.env.scope x)(j:(x=="__debug__")=AF)(a:(x=="__classdict__")=AF):PE X (.Name x pos) (up X.K λenv c Q=>∃d,env[i]?=AA (AA d)/\Q d c):=
 PE.imp (au7 l f j a) λσ H Q q=>by
  obtain⟨env,c,p,m,k,⟨d,o,g⟩,h⟩:=q;obtain⟨v,n,e⟩:=m.at' i d o;exact⟨v,n,h.here e k g⟩
def o0{xs}{env}(h:∀e p,x≠.Starred e p):An (x::xs) env=(AF,eval x env)::An xs env:=by
 cases x<;>first|rfl|exact absurd rfl (h _ _)
def bi9:PA X [] (upA X.K 0 λ_ a Q=>Q [] a):=PA.imp co4 λσ H Q q=>by
 obtain⟨e,a,g,f,d,b,c⟩:=q;exact c [] [] H a Ev.refl .nil rfl d b
def W2{t}(l:PE X a (up X.K ta))(j:PA X es (upA X.K n t))(h:∀e p,a≠.Starred e p):PA X (a::es) (upA X.K (n+1) λenv c Q=>ta env c λd st1=>t env st1 λds st2=>Q (d::ds) st2):=
 PA.imp (ck6 l j (o0 h)) λσ H Q q=>by
  obtain⟨env,c,m,g,f,i,k⟩:=q;exact⟨env,c,_,g,f,i,λv d H1 st1 ev is rs q1=>⟨env,st1,_,g.mono (ev.tk f),rs,q1,λvs ds H2 st2 ev2 is2 hl=>k (v::vs) (d::ds) H2 st2 (ev.trans ev2) (.cons (is.mono (ev2.tk rs)) is2) (by simp[hl])⟩⟩
def cv2{k}{t}(h:PA X es (upA X.K n t))(a:n<=1000):PE X (.Tuple es k pos) (up X.K λenv st Q=>t env st λds st1=>Q (.tup ds) st1):=
 PE.imp (cn3 h) λσ H Q q=>ay7 q λvs ds H' st' Qd is hl rs ht hq=>⟨by rw[<-is.len,hl];exact Gp (a83 a),hq.newT rs is ht⟩
def cz5{t}(h:PA X es (upA X.K n t))(a:n<=1000):PE X (.List es pos) (up X.K λenv st Q=>t env st λds st1=>∀p,st1 p=AD->Q (.ref p) (c9 st1 p (.lst ds))):=
 PE.imp (co2 h) λσ H Q q=>ay7 q λvs ds H' st' Qd is hl rs ht hq=>⟨by rw[<-is.len,hl];exact Gp (a83 a),hq.newL rs is ht⟩
def IsD.int_inv{K}(h:IsD K H (.int i) v):v=.int i:=by cases h;rfl
def IsD.str_inv{K}{i}(h:IsD K H (.str i) v):v=.str i:=by cases h;rfl
def IsD.bl_inv{K}{i}(h:IsD K H (.bl i) v):v=.bl i:=by cases h;rfl
def IsD.ref_inv{K}{i}(h:IsD K H (.ref i) v):v=.ref i:=by cases h;rfl
def cf5{k}(h:n<2^k)h0:=(Nat.log2_lt h0).mpr h
def be0(h:i.natAbs<2^20000):Dc i<=20000:=by
 unfold Dc
 by_cases a:i=0
 ·subst a;exact Bx _
 ·rw[if_neg (by simp_all)];exact cf5 h ⋯
theorem U2.ok{j}(h:U2 i j):LD i j:=by
 rcases h with h|⟨b,a⟩
 ·exact h.ok
 ·have d:=be0 b;have c:=be0 a;unfold LD;have:Gh (Dc i+Dc j)=AF:=by
   unfold Gh;have:40000<=bitsLine:=by decide
   lia
  first
   |simp_all
   |grind
def cj3:OpR X (Do .Mult) (rI U2 λi j=>.int (i*j)):=opI λ_ _ _ _ _ _ _ hc q=>mul_int q hc.ok
def cs8{o:Ey}(ha:PE X a (up X.K ta))(hb:PE X b (up X.K tb)):PE X (.BinOp a o b pos) (up X.K λenv st Q=>ta env st λx st1=>tb env st1 λy st2=>C9 o x y st2 Q):=by
 have bad:∀{P:Prop},False->P:=λh=>h.elim;cases o with
 |Add=>
  refine PE.imp (U0 (cy3.or (ch3.or co6)) ha hb) λσ H Q q=>up2 (f:=C9 .Add) q λv w d e H' st' Qd i1 i2 rs ht hq=>?_;cases d<;>first|exact AU ht|(cases e<;>first|exact AU ht|skip)
  ·exact .inl ⟨_,_,i1.int_inv,i2.int_inv,hq.here (.int _) rs ht⟩
  ·rename_i xs ys;obtain⟨p,vs,e1,q1,r1⟩:=i1.tup_invX;obtain⟨q',ws,e2,q2,r2⟩:=i2.tup_invX;refine .inr (.inl ⟨p,q',vs,ws,e1,e2,q1.sqt,q2.sqt,by rw[<-r1.len,<-r2.len];exact ht.1,λz=>?_,λz1 z2=>?_,λ_ _=>hq.newT rs (r1.append r2) ht.2⟩)
   ·have:xs=[]:=by rw[z]at r1;have:=r1.len;exact BD (by simpa using this)
    subst this;exact hq.here (IsD.mk q2 r2) rs ht.2
   ·have:ys=[]:=by rw[z2]at r2;have:=r2.len;exact BD (by simpa using this)
    subst this;have h2:=ht.2;rw[Ao]at h2;exact hq.here (IsD.mk q1 r1) rs h2
  ·obtain⟨xs,ys,s1,s2,hz,h2⟩:=ht;obtain⟨vs,e1,r1⟩:=rs.lst s1;obtain⟨ws,e2,r2⟩:=rs.lst s2;exact .inr (.inr ⟨_,_,vs,ws,i1.ref_inv,i2.ref_inv,e1,e2,by rw[<-r1.len,<-r2.len];exact hz,hq.newL rs (r1.append r2) h2⟩)
 |Sub=>
  refine PE.imp (U0 cu2 ha hb) λσ H Q q=>up2 (f:=C9 .Sub) q λv w d e H' st' Qd i1 i2 rs ht hq=>?_;cases d<;>first|exact AU ht|(cases e<;>first|exact AU ht|skip)
  exact⟨_,_,i1.int_inv,i2.int_inv,hq.here (.int _) rs ht⟩
 |Mult=>
  refine PE.imp (U0 cj3 ha hb) λσ H Q q=>up2 (f:=C9 .Mult) q λv w d e H' st' Qd i1 i2 rs ht hq=>?_;cases d<;>first|exact AU ht|(cases e<;>first|exact AU ht|skip)
  exact⟨_,_,i1.int_inv,i2.int_inv,ht.1,hq.here (.int _) rs ht.2⟩
 |Mod=>
  refine PE.imp (U0 cs6 ha hb) λσ H Q q=>up2 (f:=C9 .Mod) q λv w d e H' st' Qd i1 i2 rs ht hq=>?_;cases d<;>first|exact AU ht|(cases e<;>first|exact AU ht|skip)
  exact⟨_,_,i1.int_inv,i2.int_inv,ht.1,hq.here (.int _) rs ht.2⟩
 |FloorDiv=>
  refine PE.imp (U0 b30 ha hb) λσ H Q q=>up2 (f:=C9 .FloorDiv) q λv w d e H' st' Qd i1 i2 rs ht hq=>?_;cases d<;>first|exact AU ht|(cases e<;>first|exact AU ht|skip)
  exact⟨_,_,i1.int_inv,i2.int_inv,ht.1,hq.here (.int _) rs ht.2⟩
 |Pow=>
  refine PE.imp (U0 cp4 ha hb) λσ H Q q=>up2 (f:=C9 .Pow) q λv w d e H' st' Qd i1 i2 rs ht hq=>?_;cases d<;>first|exact AU ht|(cases e<;>first|exact AU ht|skip)
  exact⟨_,_,i1.int_inv,i2.int_inv,ht.1,hq.here (.int _) rs ht.2⟩
 |_=>
  refine PE.imp (U0 (op:=_) (r:=λ_ _ _ _=>False) (λ_ _ _ _ _ _ _ _ _ _ _ _ h=>h.elim) ha hb) λσ H Q q=>up2 (f:=λ_ _ _ _=>False) (by
   obtain⟨env,st,Qd,hE,hS,ht,hq⟩:=q;exact⟨env,st,Qd,hE,hS,ht,hq⟩) λv w d e H' st' Qd i1 i2 rs ht hq=>ht
def cs9(c:PE X a (up X.K ta)):PE X (.UnaryOp .USub a pos) (up X.K λenv st Q=>ta env st λx st1=>∃i,x=.int i/\Q (.int (-i)) st1):=
 PE.imp (c98 cl7 c) λσ H Q q=>up1 q λv d H' st' Qd is rs b hq=>by
  obtain⟨i,rfl,b⟩:=b;exact⟨i,is.int_inv,hq.here (.int _) rs b⟩
abbrev ax3(X:Cx):Dw->R2
 |.Eq=>λx y H Q=>∃d e,IsD X.K H d x/\IsD X.K H e y/\d.pure=AC/\e.pure=AC/\EW (l8 d) (l8 e)<=150/\Q (.bl (deq d e)) H
 |.NotEq=>λx y H Q=>∃d e,IsD X.K H d x/\IsD X.K H e y/\d.pure=AC/\e.pure=AC/\EW (l8 d) (l8 e)<=150/\Q (.bl (!deq d e)) H
 |.Lt=>rI0 λi j=>.bl (AE (i<j))
 |.LtE=>rI0 λi j=>.bl (AE (i<=j))
 |.Gt=>rI0 λi j=>.bl (AE (j<i))
 |.GtE=>rI0 λi j=>.bl (AE (j<=i))
 |.In=>λx y H Q=>(∃d es,IsD X.K H d x/\IsD X.K H (.tup es) y/\d.pure=AC/\D.pures es=AC/\l8 d<=150/\Q (.bl (es.any λe=>deq e d)) H)\/(∃(i:Int)(ns:List Int)(a:AH),x=.int i/\y=.ref a/\SqT X.K H a (ns.map V.int)/\Q (.bl (AE (i∈ns))) H)\/∃a k kvs,x=kV k/\y=.ref a/\H a=AA (.dK kvs)/\Q (.bl (r8 kvs k).isSome) H
 |.NotIn=>λx y H Q=>∃d es,IsD X.K H d x/\IsD X.K H (.tup es) y/\d.pure=AC/\D.pures es=AC/\l8 d<=150/\Q (.bl (!es.any λe=>deq e d)) H
 |_=>λ_ _ _ _=>False
omit [Tbs]in
theorem bf1 [Tbs]{K:AQ}:∀ns:List Int,IsDs K H (ns.map D.int) (ns.map V.int)
 |[]=>.nil
 |n::r=>.cons (.int n) (bf1 r)
omit [Tbs]in
theorem bb2:∀ns:List Int,D.pures (ns.map D.int)=AC
 |[]=>rfl
 |n::r=>by show(AC&&D.pures (r.map D.int))=AC;rw[bb2 r];rfl
omit [Tbs]in
theorem bj1:∀ns:List Int,((ns.map D.int).any λe=>deq e (.int i))=AE (i∈ns)
 |[]=>rfl
 |n::r=>by
  have e:deq (.int n) (.int i)=AE (n=i):=by unfold deq D.py Av;exact Gi.mpr ∎
  rw[AZ,Fs,bj1 r,e];simp only[AK,Bool.decide_or]
  congr 1;exact decide_eq_decide.mpr ⟨Eq.symm,Eq.symm⟩
def be5(b:X.A.units+200<Bv):∀o:Dw,OpR X (By o) (ax3 X o)
 |.Eq=>cl9 b
 |.NotEq=>cy4 b
 |.Lt=>c26
 |.LtE=>c30
 |.Gt=>db2
 |.GtE=>c89
 |.In=>λpins s σ H x y v u Q I rx ry h=>by
  rcases h with h|⟨i,c,a,rfl,rfl,d,q⟩|⟨a,k,f,rfl,rfl,e,q⟩
  ·exact bi2 b pins s σ H x y v u Q I rx ry h
  ·letI T:Tbs:=⟨[],λ_ _ _ _=>True,AC⟩
   exact @bi2 T X b pins s σ H _ _ v u Q I rx ry ⟨.int i,c.map D.int,.int i,IsD.mk (.inr ⟨rfl,d⟩) (bf1 c),rfl,bb2 c,Bx _,by rw[bj1];exact q⟩
  ·cases ry;exact bp3 ⋯ I (B4.k e) rx λs' I'=>⟨.bl _,H,I',rfl,q⟩
 |.NotIn=>ci0 b
 |.Is=>λ_ _ _ _ _ _ _ _ _ _ _ _ h=>h.elim
 |.IsNot=>λ_ _ _ _ _ _ _ _ _ _ _ _ h=>h.elim
def bl7{w:V}{d e:D}{H':Hp}{st':Sto}{Qd:DK}{Q:VK}(i1:IsD X.K H' d v)(i2:IsD X.K H' e w)(rs:RelS X.K st' H')(ht:o8 o d e st' Qd)(hq:w6 X.K st' H' Qd Q):ax3 X o v w H' Q:=by
 cases o with
 |Eq=>exact⟨d,e,i1,i2,ht.1,ht.2.1,ht.2.2.1,hq.here (.bl _) rs ht.2.2.2⟩
 |NotEq=>exact⟨d,e,i1,i2,ht.1,ht.2.1,ht.2.2.1,hq.here (.bl _) rs ht.2.2.2⟩
 |Lt=>cases d<;>first|exact AU ht|(cases e<;>first|exact AU ht|exact⟨_,_,i1.int_inv,i2.int_inv,hq.here (.bl _) rs ht⟩)
 |LtE=>cases d<;>first|exact AU ht|(cases e<;>first|exact AU ht|exact⟨_,_,i1.int_inv,i2.int_inv,hq.here (.bl _) rs ht⟩)
 |Gt=>cases d<;>first|exact AU ht|(cases e<;>first|exact AU ht|exact⟨_,_,i1.int_inv,i2.int_inv,hq.here (.bl _) rs ht⟩)
 |GtE=>cases d<;>first|exact AU ht|(cases e<;>first|exact AU ht|exact⟨_,_,i1.int_inv,i2.int_inv,hq.here (.bl _) rs ht⟩)
 |In=>
  have hd:∀(k:Key)(a:AH)(kvs:List (Key×D)),v=kV k->w=.ref a->st' a=AA (.dct kvs)->Qd (.bl (G6 kvs k).isSome) st'->ax3 X .In v w H' Q:=λk a kvs e1 e2 e3 ht=>by
   obtain⟨vs,h1,h2⟩:=rs.dct e3;refine .inr (.inr ⟨a,k,vs,e1,e2,h1,?_⟩)
   rcases h2.look k with⟨l1,l2⟩|⟨d,v,l1,l2,_⟩<;>(rw[l1]at ht;rw[l2];exact hq.here (.bl _) rs ht)
  cases e with
  |tup es=>exact .inl ⟨d,es,i1,i2,ht.1,ht.2.1,ht.2.2.1,hq.here (.bl _) rs ht.2.2.2⟩
  |ref a=>
   cases d<;>first|exact AU ht|skip
   obtain⟨kvs,e,ht⟩:=ht;exact hd (.inr _) a kvs i1.str_inv i2.ref_inv e ht
  |ktup ns=>
   cases d<;>first|exact AU ht|skip
   cases i2 with
   |ktup sq=>exact .inr (.inl ⟨_,ns,_,i1.int_inv,rfl,sq.elim (λz=>by rcases z with z|⟨_,z⟩<;>cases z) .inr,hq.here (.bl _) rs ht⟩)
  |_=>exact AU (by cases d<;>exact ht)
 |NotIn=>
  cases e with
  |tup es=>exact⟨d,es,i1,i2,ht.1,ht.2.1,ht.2.2.1,hq.here (.bl _) rs ht.2.2.2⟩
  |_=>exact AU (by cases d<;>exact ht)
 |Is=>exact AU ht
 |IsNot=>exact AU ht
def P6(o)b(h:∀a k p,b≠.Set a k p):Cd o b=AF:=by
 cases b<;>first|rfl|exact absurd rfl (h _ _ _)
def cu9(c:X.A.units+200<Bv)(h:PE X a (up X.K ta))(g:PE X b (up X.K tb))(f:∀i k p,b≠.Set i k p):PE X (.Compare a [o] [b] pos) (up X.K λenv st Q=>ta env st λx st1=>tb env st1 λy st2=>o8 o x y st2 Q):=
 PE.imp (ag5 (be5 c o) h g (P6 o b f)) λσ H Q q=>up2 q λv w d e H' st' Qd i1=>bl7 i1
def cz6(h:X.A.units+200<Bv)(n:PE X a (up X.K ta))(m:PE X b (up X.K tb))(l:∀t k p,b≠.Set t k p):
  PT X (.Compare a [o] [b] pos) (upB X.K λenv f Q=>ta env f λx st1=>tb env st1 λy st2=>o8 o x y st2 λd st'=>∃k,d=.bl k/\Q k st'):=
 PT.imp (ah3 (be5 h o) n m (P6 o b l)) λσ H Q q=>by
  obtain⟨env,f,u,s,r,i,j⟩:=q;refine up2 ⟨env,f,_,s,r,i,λv d H' st' ev is rs g=>?_⟩ λv w d e H' st' u i1 i2=>bl7 i1 i2;obtain⟨k,rfl,g⟩:=g;exact⟨k,is.bl_inv,j k H' st' ev rs g⟩
def co5{j pos'}(f:PE X a (up X.K ta)):PE X (.Compare a [.Is] [.Constant .none j pos'] pos) (up X.K λenv st Q=>ta env st λx st1=>x=.non/\Q (.bl AC) st1\/x≠.non/\Q (.bl AF) st1):=
 PE.imp (bi1 (bj0 f) rfl) λσ H Q q=>up1 q λv d H' st' Qd is rs b hq=>by
  rcases b with⟨rfl,b⟩|⟨c,b⟩
  ·cases is;exact hq.here (.bl _) rs (by simp_all)
  ·have e:AE (v=V.non)=AF:=decide_eq_false λz=>c (by subst z;cases is;rfl);rw[e];exact hq.here (.bl _) rs b
def cb6{j pos'}(f:PE X a (up X.K ta)):PE X (.Compare a [.IsNot] [.Constant .none j pos'] pos) (up X.K λenv st Q=>ta env st λx st1=>x=.non/\Q (.bl AF) st1\/x≠.non/\Q (.bl AC) st1):=
 PE.imp (bi1 (bg6 f) rfl) λσ H Q q=>up1 q λv d H' st' Qd is rs b hq=>by
  rcases b with⟨rfl,b⟩|⟨c,b⟩
  ·cases is;exact hq.here (.bl _) rs (by simp_all)
  ·have e:AE (v=V.non)=AF:=decide_eq_false λz=>c (by subst z;cases is;rfl);rw[e];exact hq.here (.bl _) rs b
def bn9{t}{f}(h:PT X x (tB t))(i:∀σ H Q,up X.K f σ H Q->t σ H Q):PT X x (upB X.K λenv e Q=>f env e λd st'=>∃b,d=.bl b/\Q b st'):=PT.imp h λσ H Q q=>by
 obtain⟨env,e,m,l,k,g,j⟩:=q;refine i σ H _ ⟨env,e,_,l,k,g,λv d H' st' ev is rs q=>?_⟩;obtain⟨b,rfl,q⟩:=q;cases is;exact⟨b,rfl,j b H' st' ev rs q⟩
def cn8{j pos'}(h:PE X a (up X.K ta)):PT X (.Compare a [.Is] [.Constant .none j pos'] pos) (upB X.K λenv st Q=>ta env st λx st1=>(x=.non/\∃b,D.bl AC=.bl b/\Q b st1)\/x≠.non/\∃b,D.bl AF=.bl b/\Q b st1):=
 bn9 (bk7 (bj0 h) rfl) λσ H Q q=>up1 (f:=λx st1 Q=>x=.non/\Q (.bl AC) st1\/x≠.non/\Q (.bl AF) st1) q λv d H' st' Qd is rs c hq=>by
  rcases c with⟨rfl,c⟩|⟨g,c⟩
  ·cases is;exact hq.here (.bl _) rs (by simp_all)
  ·have e:AE (v=V.non)=AF:=decide_eq_false λz=>g (by subst z;cases is;rfl);rw[e];exact hq.here (.bl _) rs c
def b88{j pos'}(h:PE X a (up X.K ta)):PT X (.Compare a [.IsNot] [.Constant .none j pos'] pos) (upB X.K λenv st Q=>ta env st λx st1=>(x=.non/\∃b,D.bl AF=.bl b/\Q b st1)\/x≠.non/\∃b,D.bl AC=.bl b/\Q b st1):=
 bn9 (bk7 (bg6 h) rfl) λσ H Q q=>up1 (f:=λx st1 Q=>x=.non/\Q (.bl AF) st1\/x≠.non/\Q (.bl AC) st1) q λv d H' st' Qd is rs c hq=>by
  rcases c with⟨rfl,c⟩|⟨g,c⟩
  ·cases is;exact hq.here (.bl _) rs (by simp_all)
  ·have e:AE (v=V.non)=AF:=decide_eq_false λz=>g (by subst z;cases is;rfl);rw[e];exact hq.here (.bl _) rs c
@[reducible]noncomputable def tst(t:DT):DB:=λenv st Q=>t env st λd st'=>∃b,d=.bl b/\Q b st'
variable {l6:List AS}
def bl6(n:PE X a (up X.K ta))(m:PE X (.BoolOp .And (b::l6) pos) (up X.K tb)):PE X (.BoolOp .And (a::b::l6) pos) (up X.K λenv g Q=>ta env g λx st1=>∃c,x=.bl c/\if c=AC then tb env st1 Q else Q (.bl AF) st1):=
 PE.imp (cu1 n m) λσ H Q q=>by
  obtain⟨env,g,o,j,i,l,h⟩:=q;refine⟨env,g,_,j,i,l,λv d H1 st1 ev is rs f=>?_⟩;obtain⟨k,rfl,f⟩:=f;refine⟨k,is.bl_inv,?_⟩;cases k with
  |true=>exact⟨env,st1,o,j.mono (ev.tk i),rs,f,h.after ev⟩
  |false=>exact(h.after ev).here (.bl _) rs f
def bo0(n:PE X a (up X.K ta))(m:PE X (.BoolOp .Or (b::l6) pos) (up X.K tb)):PE X (.BoolOp .Or (a::b::l6) pos) (up X.K λenv g Q=>ta env g λx st1=>∃c,x=.bl c/\if c=AC then Q (.bl AC) st1 else tb env st1 Q):=
 PE.imp (c52 n m) λσ H Q q=>by
  obtain⟨env,g,o,j,i,l,h⟩:=q;refine⟨env,g,_,j,i,l,λv d H1 st1 ev is rs f=>?_⟩;obtain⟨k,rfl,f⟩:=f;refine⟨k,is.bl_inv,?_⟩;cases k with
  |false=>exact⟨env,st1,o,j.mono (ev.tk i),rs,f,h.after ev⟩
  |true=>exact(h.after ev).here (.bl _) rs f
def cm9(e:PE X a (up X.K ta)):PE X (.UnaryOp .Not a pos) (up X.K λenv st Q=>ta env st λx st1=>∃c,x=.bl c/\Q (.bl !c) st1):=
 PE.imp (cx5 e) λσ H Q q=>up1 q λv d H' st' Qd is rs b hq=>by
  obtain⟨c,rfl,b⟩:=b;exact⟨c,is.bl_inv,hq.here (.bl _) rs b⟩
def bk3(p:PT X a (upB X.K (tst ta)))(o:PW X (.BoolOp .And (b::l6) pos) (upB X.K (tst tb))):PW X (.BoolOp .And (a::b::l6) pos) (upB X.K (tst λenv h Q=>ta env h λx st1=>∃c,x=.bl c/\if c=AC then tb env st1 Q else Q (.bl AF) st1)):=
 PW.imp (co3 p o) λσ H Q q=>by
  obtain⟨env,h,i,m,l,n,j⟩:=q;refine⟨env,h,λc st1=>if c=AC then tb env st1 λd st'=>∃b,d=.bl b/\i b st' else ∃b,D.bl AF=.bl b/\i b st1,m,l,n,λk H1 st1 ev rs g=>?_⟩;cases k with
  |true=>
   exact⟨env,st1,i,m.mono (ev.tk l),rs,g,λc H2 st2 ev2=>j c H2 st2 (ev.trans ev2)⟩
  |false=>
   obtain⟨b,e,g⟩:=g;cases e;exact j AF H1 st1 ev rs g
def bm8(p:PT X a (upB X.K (tst ta)))(o:PW X (.BoolOp .Or (b::l6) pos) (upB X.K (tst tb))):PW X (.BoolOp .Or (a::b::l6) pos) (upB X.K (tst λenv h Q=>ta env h λx st1=>∃c,x=.bl c/\if c=AC then Q (.bl AC) st1 else tb env st1 Q)):=
 PW.imp (c23 p o) λσ H Q q=>by
  obtain⟨env,h,i,m,l,n,j⟩:=q;refine⟨env,h,λc st1=>if c=AC then ∃b,D.bl AC=.bl b/\i b st1 else tb env st1 λd st'=>∃b,d=.bl b/\i b st',m,l,n,λk H1 st1 ev rs g=>?_⟩;cases k with
  |false=>
   exact⟨env,st1,i,m.mono (ev.tk l),rs,g,λc H2 st2 ev2=>j c H2 st2 (ev.trans ev2)⟩
  |true=>
   obtain⟨b,e,g⟩:=g;cases e;exact j AC H1 st1 ev rs g
def cs1(j:PT X a (upB X.K (tst ta))):PT X (.UnaryOp .Not a pos) (upB X.K (tst λenv f Q=>ta env f λx st1=>∃c,x=.bl c/\Q (.bl !c) st1)):=
 PT.imp (cx9 j) λσ H Q q=>by
  obtain⟨env,f,m,l,k,h,i⟩:=q;refine⟨env,f,λc st1=>∃b,D.bl (!c)=.bl b/\m b st1,l,k,h,λk H1 st1 ev rs g=>?_⟩;obtain⟨b,e,g⟩:=g;cases e;exact i _ H1 st1 ev rs g
def cv0{t1}(l:PT X c (upB X.K (tst t1)))(n:PE X a (up X.K ta))(m:PE X b (up X.K tb)):PE X (.IfExp c a b pos) (up X.K λenv f Q=>t1 env f λx st1=>∃k,x=.bl k/\if k=AC then ta env st1 Q else tb env st1 Q):=
 PE.imp (b37 l n m) λσ H Q q=>by
  obtain⟨env,f,e,h,g,j,i⟩:=q;refine⟨env,f,λk st1=>if k=AC then ta env st1 e else tb env st1 e,h,g,j,λk H1 st1 ev rs q1=>?_⟩;cases k with
  |true=>exact⟨env,st1,e,h.mono (ev.tk g),rs,q1,i.after ev⟩
  |false=>exact⟨env,st1,e,h.mono (ev.tk g),rs,q1,i.after ev⟩
end
end Ek
namespace Ek
open PySem PySem.Spec PyProof.Rows L2
variable [Tbs]
variable{H:Hp}{ds:List D}{vs:List V}{f m:Str}{fd:Bt}{ps:List Str}{sp:Spec}{es:List AS}{n:Nat}{Ph:Str->Spec}{apos:Pos}{ob:AS}{Ca:AH}
section
variable {X:Cx} {a b c:AS} {ta tb tc:DT} {pos p:Pos}
def bl2{K}{i}{d}(r:IsDs K H ds vs)(h:atI ds i=AA d):∃v,atI vs i=AA v/\IsD K H d v:=by
 unfold atI at h ⊢;rw[<-r.len];cases e:ixN ds.length i with
 |none=>simp_all
 |some j=>
  rw[e]at h;exact r.get h
def ap1(h:∀l u s p,b≠.Slice l u s p):bc8 b:=λo i=>by
 cases b<;>first|rfl|exact absurd rfl (h _ _ _ _)
abbrev dd8:R2:=λx y H Q=>∃p k kvs v,x=.ref p/\y=kV k/\H p=AA (.dK kvs)/\r8 kvs k=AA v/\Q v H
def cv6(t:X.A.units+200<Bv):IxR X dd8:=by
 intro a b c s e H x y v u Q I i f h m;obtain⟨p,k,j,z,rfl,rfl,o,l,q⟩:=h;cases i;have g:B4 H p (kV k) (AA z):=by rw[<-l];exact B4.k o
 have n:=az9 I g;refine AB ?_;refine AB (Bm n PySem.F.slot_dict_getitem.lookup ?_);have d:AR (model X.prog X.w) X.A (subscripted b AF (.ref p) u) (λr s₃=>AR (model X.prog X.w) X.A (LH a (.ref p) r>>=λ_=>pure r) (EP X c e Q) X.xe s₃) X.xe s:=by
  rw[m];refine Kt (a89 ⋯ I g f λw' s3 I3 rw'=>AB (JP (AL ⟨z,H,I3,rw',q⟩)))
 first
  |exact AL (AB d)
  |grind
  |exact AB d
def c16(hu:X.A.units+200<Bv)(ha:PE X a (up X.K ta))(hb:PE X b (up X.K tb))(hs:∀l u s p,b≠.Slice l u s p):PE X (.Subscript a b pos) (up X.K λenv st Q=>ta env st λx st1=>tb env st1 λy st2=>ixR x y st2 Q):=
 PE.imp (c53 (ce4.or (cl1.or ((cv6 hu).or cy7))) ha hb (ap1 hs)) λσ H Q q=>up2 (f:=ixR) q λv w d e H' st' Qd i1 i2 rs ht hq=>by
  cases d<;>first|exact AU ht|(cases e<;>first|exact AU ht|skip)
  ·obtain⟨c,hl,e1,ht⟩:=ht;exact .inr (.inr (.inr ⟨_,_,c,i1.str_inv,i2.int_inv,hl,e1,hq.here (.str _) rs ht⟩))
  ·obtain⟨d,e1,ht⟩:=ht;obtain⟨p,vs,rfl,hq',r⟩:=i1.tup_inv;obtain⟨v',e2,is⟩:=bl2 r e1;exact .inr (.inl ⟨p,vs,_,v',rfl,i2.int_inv,hq',e2,hq.here is rs ht⟩)
  ·rcases ht with⟨ds,d,hr,e1,ht⟩|⟨kvs,d,hr,e1,ht⟩
   ·obtain⟨vs,hq',r⟩:=rs.rd hr;obtain⟨v',e2,is⟩:=bl2 r e1;exact .inl ⟨_,vs,_,v',i1.ref_inv,i2.int_inv,hq',e2,hq.here is rs ht⟩
   ·obtain⟨vs,hH,r⟩:=rs.dct hr
    rcases r.look (.inl _)with⟨l1,l2⟩|⟨d',v',l1,l2,is⟩
    ·rw[l1]at e1;cases e1
    ·rw[l1]at e1;cases e1;exact .inr (.inr (.inl ⟨_,.inl _,vs,v',i1.ref_inv,i2.int_inv,hH,l2,hq.here is rs ht⟩))
  ·obtain⟨kvs,d,hr,e1,ht⟩:=ht;obtain⟨vs,hH,r⟩:=rs.dct hr
   rcases r.look (.inr _)with⟨l1,l2⟩|⟨d',v',l1,l2,is⟩
   ·rw[l1]at e1;cases e1
   ·rw[l1]at e1;cases e1;exact .inr (.inr (.inl ⟨_,.inr _,vs,v',i1.ref_inv,i2.str_inv,hH,l2,hq.here is rs ht⟩))
@[reducible]noncomputable def DO:=j8->Sto->(Option Int->Sto->Prop)->Prop
abbrev upO(K:AQ)(t:DO):TO:=λσ H Q=>∃env st Qd,RelE K H env σ/\RelS K st H/\t env st Qd/\∀o H' st',Ev st H st' H'->RelS K st' H'->Qd o st'->Q o H'
def _root_.L2.PO.imp{X}{x}{t t'}(h:PO X x t)(i:∀a H Q,t' a H Q->t a H Q):PO X x t':=λpins s a H Q I q=>h pins s a H Q I (i a H Q q)
def cj8:PO X AD (upO X.K λ_ a k=>k AD a):=PO.imp cg5 λσ H Q q=>by
 obtain⟨e,a,g,f,d,b,c⟩:=q;exact c AD H a Ev.refl d b
def cg6(h:PE X a (up X.K ta)):PO X (AA a) (upO X.K λenv c k=>ta env c λd st'=>∃i,d=.int i/\k (AA i) st'):=PO.imp (ch8 h) λσ H Q q=>by
 obtain⟨env,c,m,l,j,f,g⟩:=q;refine⟨env,c,_,l,j,f,λv d H' st' ev is rs e=>?_⟩;obtain⟨i,rfl,e⟩:=e;exact⟨i,is.int_inv,g _ H' st' ev rs e⟩
def bi3{K}(r:IsDs K H ds vs)lo hi:IsDs K H (t5 ds lo hi) (R1 vs lo hi):=by
 unfold t5 R1;rw[r.len];exact(r.drop _).take _
def c28{lo hi}{tl th}{p2}(v:PE X a (up X.K ta))(t:PO X lo (upO X.K tl))(u:PO X hi (upO X.K th)):
  PE X (.Subscript a (.Slice lo hi AD p2) pos) (up X.K λenv i Q=>ta env i λx st1=>tl env st1 λl st2=>th env st2 λh st3=>slR x l h st3 Q):=
 PE.imp (b55 (cy0.or cc7) v t u) λσ H Q q=>by
  obtain⟨env,i,y,m,k,n,s⟩:=q;refine⟨env,i,_,m,k,n,λv d H1 st1 ev1 is1 rs1 q1=>⟨env,st1,_,m.mono (ev1.tk k),rs1,q1,λl H2 st2 ev2 rs2 q2=>⟨env,st2,_,(m.mono (ev1.tk k)).mono (ev2.tk rs1),rs2,q2,λh H3 st3 ev3 rs3 c=>?_⟩⟩⟩;have e:=(is1.mono (ev2.tk rs1)).mono (ev3.tk rs2);have f:=((s.after ev1).after ev2).after ev3;cases d<;>first|exact AU c|skip
  ·obtain⟨p,g,rfl,j,r⟩:=e.tup_inv;exact .inl ⟨p,g,rfl,j,(r.len▸c.1),f.newT rs3 (bi3 r l h) c.2⟩
  ·obtain⟨w,o,c⟩:=c;obtain⟨g,j,r⟩:=rs3.rd o;exact .inr ⟨_,g,e.ref_inv,j,f.newL rs3 (bi3 r l h) c⟩
def L9(b:PE X a (up X.K ta))(h:∀e p,a≠.Starred e p):PA X [a] (upA X.K 1 λenv st Q=>ta env st λd st1=>Q [d] st1):=W2 b bi9 h
def c00{id}{r}{g:D->Sto->DK->Prop}(J:M5 X (.builtin id) r)(I:Gl X f)(F:X.mg f=AD)(A:Bn f=AA (.builtin id))(L:PE X a (up X.K ta))(o:∀e p,a≠.Starred e p)
  (l:∀v d h b j Q,IsD X.K h d v->RelS X.K b h->g d b j->w6 X.K b h j Q->r [v] h Q) (E:f≠"__name__") (m:(f=="__debug__")=AF) :
  PE X (.Call (.Name f p) [a] [] pos) (up X.K λenv k Q=>ta env k λx c=>g x c Q):=
 PE.imp (aq8 J I F A (L9 L o) E m (o0 o) rfl) λσ H Q q=>by
  obtain⟨env,k,j,N,M,B,C⟩:=q;refine⟨env,k,λds c=>match ds with|[d]=>g d c j|_=>False,N,M,B,λvs ds h b O w G t u=>?_⟩
  match ds,G with
  |[d],_=>
   obtain⟨v,P,rfl,z,y⟩:=w.inv_cons;rw[y.inv_nil];exact l v d h b j Q z t u (C.after O)
def av2{T}{r}{g:D->Sto->DK->Prop}(J:M5 X (.type T) r)(I:Gl X f)(F:X.mg f=AD)(A:Bn f=AA (.type T))(L:PE X a (up X.K ta))(o:∀e p,a≠.Starred e p)
  (l:∀v d h b j Q,IsD X.K h d v->RelS X.K b h->g d b j->w6 X.K b h j Q->r [v] h Q) (E:f≠"__name__") (m:(f=="__debug__")=AF) :
  PE X (.Call (.Name f p) [a] [] pos) (up X.K λenv k Q=>ta env k λx c=>g x c Q):=
 PE.imp (b09 J I F A (L9 L o) E m (o0 o) rfl) λσ H Q q=>by
  obtain⟨env,k,j,N,M,B,C⟩:=q;refine⟨env,k,λds c=>match ds with|[d]=>g d c j|_=>False,N,M,B,λvs ds h b O w G t u=>?_⟩
  match ds,G with
  |[d],_=>
   obtain⟨v,P,rfl,z,y⟩:=w.inv_cons;rw[y.inv_nil];exact l v d h b j Q z t u (C.after O)
def b56:Bn "max"=AA (.builtin "max"):=by decide+kernel
def b14:Bn "int"=AA (.type "int"):=by decide+kernel
def a61:Bn "list"=AA (.type "list"):=by decide+kernel
def bs7:Bn "tuple"=AA (.type "tuple"):=by decide+kernel
def ct3(i:Gl X "len")(h:X.mg "len"=AD)(j:PE X a (up X.K ta))(c:∀e p,a≠.Starred e p):PE X (.Call (.Name "len" p) [a] [] pos) (up X.K λenv st Q=>ta env st λx st1=>U7 x st1 Q):=
 c00 bs0 i h PySem.boot_len j c (λv d H' st' Qd Q is rs b hq=>by
  cases d<;>first|exact AU b|skip
  ·obtain⟨p,f,rfl,c,r⟩:=is.tup_inv;exact⟨p,f,rfl,.inr c,by rw[<-r.len];exact hq.here (.int _) rs b⟩
  ·obtain⟨k,g,b⟩:=b;obtain⟨f,c,r⟩:=rs.rd g;exact⟨_,f,by rw[is.ref_inv],.inl c,by rw[<-r.len];exact hq.here (.int _) rs b⟩) ∅ ∅
def b31(f:Gl X "int")(c:X.mg "int"=AD)(g:PE X a (up X.K ta))(b:∀e p,a≠.Starred e p):PE X (.Call (.Name "int" p) [a] [] pos) (up X.K λenv st Q=>ta env st λx st1=>ac2 x st1 Q):=
 av2 by4 f c b14 g b (λv d H' st' Qd Q is rs ht hq=>by
  cases d<;>first|exact AU ht|skip
  ·exact .inr ⟨_,by rw[is.bl_inv],hq.here (.int _) rs ht⟩
  ·exact .inl ⟨_,by rw[is.int_inv],hq.here (.int _) rs ht⟩) ∅ ∅
def ci6(i:Gl X "list")(h:X.mg "list"=AD)(j:PE X a (up X.K ta))(c:∀e p,a≠.Starred e p):PE X (.Call (.Name "list" p) [a] [] pos) (up X.K λenv st Q=>ta env st λx st1=>ai6 x st1 Q):=
 av2 br9 i h a61 j c (λv d H' st' Qd Q is rs b hq=>by
  cases d<;>first|exact AU b|skip
  ·obtain⟨p,f,rfl,c,r⟩:=is.tup_inv;exact⟨p,f,rfl,.inr c,hq.newL rs r b⟩
  ·obtain⟨k,g,b⟩:=b;obtain⟨f,c,r⟩:=rs.rd g;exact⟨_,f,by rw[is.ref_inv],.inl c,hq.newL rs r b⟩) ∅ ∅
def b40(i:Gl X "tuple")(h:X.mg "tuple"=AD)(j:PE X a (up X.K ta))(c:∀e p,a≠.Starred e p):PE X (.Call (.Name "tuple" p) [a] [] pos) (up X.K λenv st Q=>ta env st λx st1=>W8 x st1 Q):=
 av2 br6 i h bs7 j c (λv d H' st' Qd Q is rs b hq=>by
  cases d<;>first|exact AU b|skip
  ·obtain⟨p,f,rfl,c,r⟩:=is.tup_inv;exact⟨p,f,rfl,.inr ⟨c,hq.here is rs b⟩⟩
  ·obtain⟨k,g,b⟩:=b;obtain⟨f,c,r⟩:=rs.rd g;exact⟨_,f,by rw[is.ref_inv],.inl ⟨c,hq.newT rs r b⟩⟩) ∅ ∅
def ah7(f:PE X a (up X.K ta))(c:PE X b (up X.K tb))(h:∀e p,a≠.Starred e p)(h':∀e p,b≠.Starred e p):PA X [a,b] (upA X.K 2 λenv st Q=>ta env st λd st1=>tb env st1 λe st2=>Q [d,e] st2):=W2 f (L9 c h') h
def cq5(B:X.calm=AC)(A:Gl X "max")(z:X.mg "max"=AD)(D:PE X a (up X.K ta))(C:PE X b (up X.K tb))(l:∀e p,a≠.Starred e p)(g:∀e p,b≠.Starred e p):
  PE X (.Call (.Name "max" p) [a,b] [] pos) (up X.K λenv h Q=>ta env h λx c=>tb env c λy st2=>∃i j,x=.int i/\y=.int j/\Q (.int (if j>i then j else i)) st2):=
 PE.imp (aq8 (bx9 B) A z b56 (ah7 D C l g) ∅ ∅ (o0 l) (by rw[o0 g];rfl)) λσ H Q q=>by
  obtain⟨env,h,G,F,E,t,u⟩:=q;refine⟨env,h,(λds c=>match ds with|[x,y]=>∃i j,x=.int i/\y=.int j/\G (.int (if j>i then j else i)) c|_=>False),F,E,t,λvs ds H' st' ev is hl rs k=>?_⟩
  match ds,hl with
  |[d,e],_=>
   obtain⟨v,I,rfl,s,r⟩:=is.inv_cons;obtain⟨w,m,rfl,o,n⟩:=r.inv_cons;rw[n.inv_nil];obtain⟨i,j,rfl,rfl,k⟩:=k;exact⟨i,j,by rw[s.int_inv,o.int_inv],(u.after ev).here (.int _) rs k⟩
def aq3{b:List (AH×Obj)}{h:L2.St}{s:AJ}(I:L2.Inv X b h H s){a:AH}(k:SqL X.K H a vs)(r:IsDs X.K H ds vs)(e:D.pures ds=AC):∃g,Reads s.heap (.ref a) (.list (D.pys ds)) g:=by
 obtain⟨c,i,⟨o,n,l,m,_,f⟩,p⟩:=I.list k;obtain⟨g,j⟩:=az8 (P:=λd=>d.pure=AC) (λd v u e is ru=>E3 I is e ru) ds vs c (λd f=>af1 e d f) r i;exact⟨_,.list l m f (by simpa using j)⟩
def bh2(N:X.A.units+200<Bv)(k:Bool):OpR X (By (if k then .NotEq else .Eq)) (λx y H Q=>∃a b d e g f,x=.ref a/\y=.ref b/\SqL X.K H a g/\SqL X.K H b f/\IsDs X.K H d g/\IsDs X.K H e f/\D.pures d=AC/\D.pures e=AC/\BZ (D.pys d)<=149/\Q (.bl (k != BY (D.pys d) (D.pys e))) H):=by
 intro m s M H x y v u Q I C B h;obtain⟨a,b,d,e,g,f,rfl,rfl,J,G,F,E,o,n,L,q⟩:=h;cases C;cases B;obtain⟨R,j⟩:=aq3 I J F o;obtain⟨P,i⟩:=aq3 I G E n;have r:=S7 d o;have p:=S7 e n;generalize D.pys d=ps at j r L q;generalize D.pys e=qs at i p q;have z:CW (.list ps)=AC:=by exact r
 have t:CW (.list qs)=AC:=by exact p
 have c:X.A.units+min (CC (.list ps)) (CC (.list qs))<Bv:=by
  have:min (CC (.list ps)) (CC (.list qs))<=CC (.list ps):=Jc _ _;have O:CC (.list ps)=BZ ps+1:=by rw[CC]
  lia
 cases k with
 |true=>
  have l:(!PyData.eqv (.list ps) (.list qs))=(AC != BY ps qs):=by rw[Av];cases BY ps qs<;>rfl
  exact IV j i z t c X.prog X.w _ _ ⟨.bl _,H,I,congrArg Fa l,q⟩
 |false=>
  have l:Av (.list ps) (.list qs)=(AF != BY ps qs):=by rw[Av];cases BY ps qs<;>rfl
  exact Iy j i z t c X.prog X.w _ _ ⟨.bl _,H,I,congrArg Fa l,q⟩
def bg7{ne:Bool}{v w:V}{d e:D}{H':Hp}{st':Sto}{Qd:DK}{Q:VK}(i1:IsD X.K H' d v)(i2:IsD X.K H' e w)(rs:RelS X.K st' H')(ht:U1 ne d e st' Qd)(hq:w6 X.K st' H' Qd Q):∃a b xs ys vs ws,v=.ref a/\w=.ref b/\SqL X.K H' a vs/\SqL X.K H' b ws/\IsDs X.K H' xs vs/\IsDs X.K H' ys ws/\D.pures xs=AC/\D.pures ys=AC/\BZ (D.pys xs)<=149/\Q (.bl (ne != BY (D.pys xs) (D.pys ys))) H':=by
 cases d<;>first|exact AU ht|(cases e<;>first|exact AU ht|skip)
 obtain⟨xs,ys,h1,h2,p1,p2,hd,ht⟩:=ht;obtain⟨vs,q1,r1⟩:=rs.rd h1;obtain⟨ws,q2,r2⟩:=rs.rd h2;exact⟨_,_,xs,ys,vs,ws,i1.ref_inv,i2.ref_inv,q1,q2,r1,r2,p1,p2,hd,hq.here (.bl _) rs ht⟩
def cg1{c:Bool}{o}(h:o=if c then .NotEq else .Eq)(g:X.A.units+200<Bv)(l:PE X a (up X.K ta))(j:PE X b (up X.K tb))(i:∀m k p,b≠.Set m k p):PE X (.Compare a [o] [b] pos) (up X.K λenv st Q=>ta env st λx st1=>tb env st1 λy st2=>U1 c x y st2 Q):=by
 subst h;exact PE.imp (ag5 (bh2 g c) l j (P6 _ b i)) λσ H Q q=>up2 (f:=U1 c) q λv w d e H' st' Qd i1 i2 rs ht hq=>bg7 i1 i2 rs ht hq
def ch5{h:Bool}{o}(m:o=if h then .NotEq else .Eq)(j:X.A.units+200<Bv)(s:PE X a (up X.K ta))(r:PE X b (up X.K tb))(n:∀v k p,b≠.Set v k p):
  PT X (.Compare a [o] [b] pos) (upB X.K λenv f Q=>ta env f λx st1=>tb env st1 λy st2=>U1 h x y st2 λd st'=>∃k,d=.bl k/\Q k st'):=by
 subst m;refine PT.imp (ah3 (bh2 j h) s r (P6 _ b n)) λσ H Q q=>?_;obtain⟨env,f,z,u,t,i,l⟩:=q;refine up2 (Q:=λx H'=>∃k,x=.bl k/\Q k H') ⟨env,f,_,u,t,i,λv d H' st' ev is rs g=>?_⟩ λv w d e H' st' z i1 i2 rs i=>bg7 i1 i2 rs i;obtain⟨k,rfl,g⟩:=g;exact⟨k,is.bl_inv,l k H' st' ev rs g⟩
abbrev C8(K:AQ)(sp:Spec):Sp:=λvs H Q _=>∃ds st Qd,IsDs K H ds vs/\RelS K st H/\sp ds st Qd/\w6 K st H Qd Q
def ch2{f}{k}{fa}{t}(F:FnOk X.prog X.w X.K X.mg X.base CX0 k fa fd ps (C8 X.K sp))(g:Room k X.A)(j:Gl X f)(h:X.mg f=AA (.ref fa))(i:CI X.K (.ref fa)=AC)
  (l:y0 X.K fd ps []) (m:PA X (a::es) (upA X.K n t)) (c:(f==("__debug__":Str))=AF) (d:∀e p,a≠.Starred e p) (b:(CH pos (An es X.env)).any (·.1)=AF) :
  PE X (.Call (.Name f p) (a::es) [] pos) (up X.K λenv st Q=>t env st λds st1=>sp ds st1 Q):=
 PE.imp (cb3 F g j h i l .nil O4 m c (o0 d) b) λσ H Q q=>ay7 q λvs ds H' st' Qd is hl rs ht hq=>⟨ds,st',Qd,by simp_all,rs,ht,hq⟩
def c38{fa}(h:Gl X f)(g:X.mg f=AA (.ref fa))(a:BJ X.K AO f=AA (AA (.ref fa)))(b:(f==("__debug__":Str))=AF):PE X (.Name f p) (up X.K λ_ c Q=>Q (.fn f) c):=
 PE.imp (bg0 (v:=.ref fa) h g rfl b) λσ H Q q=>by
  obtain⟨j,c,l,k,i,d,e⟩:=q;exact e.here (.fn a) i d
abbrev ad0(K:AQ)(f:AH)(fd:Bt)(np:Nat)(N:List Str)(cs:List D)(sp:Spec):Sp:=λvs H Q _=>∃us ds st Qd,CloR H f fd np N us/\IsDs K H cs us/\IsDs K H ds vs/\RelS K st H/\sp ds st Qd/\w6 K st H Qd Q
def CloR.fnAt{f}{np}{N}{us}(h:CloR H f fd np N us)(I:Inv X pins σ H s):W.FnAt f s.heap:=by
 obtain⟨o,u,i,_,g⟩:=h.ex;obtain⟨e,_⟩:=I.hok f _ i;obtain⟨d,c,j,b⟩:=o;have a:=g;subst a;exact⟨d,c,fd,b,e⟩
def b24{i:Nat}{x:Str}{t:DA}{Z:Sg}(hN:X.N[i]?=AA x)(hv:Vis X.env.scope x)(hd:(x==("__debug__":Str))=AF)(L:(x==("__classdict__":Str))=AF)
  (hF:∀f g,Z.F f=AC->BJ X.K AO f=AA (AA (.ref g))->∃k o z,FnOk X.prog X.w X.K X.mg X.base CX0 k g o z (C8 X.K (Z.Phi f))/\Room k X.A/\CI X.K (.ref g)=AC/\y0 X.K o z [])
  (hC:∀B N b C g o z,CloF o B N z b->∃k,FnOk X.prog X.w X.K X.mg X.base CX0 k g o z (ad0 X.K g o B N C (Z.PhiC B N b C))/\Room k X.A)
  (ha:PA X (a::es) (upA X.K n t)) (hs:∀e p,a≠.Starred e p) (J:(CH pos (An es X.env)).any (·.1)=AF) :
  PE X (.Call (.Name x p) (a::es) [] pos) (up X.K λenv y Q=>∃x,env[i]?=AA (AA x)/\Y1 Z (t env) y Q x):=by
 intro l s P H Q I q;obtain⟨env,y,D,hE,M,⟨d,he,m⟩,hq⟩:=q;obtain⟨v,G,E⟩:=hE.at' i _ he;cases d with
 |fn f=>
  obtain⟨hf,U⟩:Z.F f=AC/\t env y λds c=>Z.Phi f ds c D:=m;obtain⟨g,rfl,Y⟩:∃g,v=.ref g/\BJ X.K AO f=AA (AA (.ref g)):=by cases E with|fn h=>exact⟨_,rfl,h⟩
  obtain⟨k,o,z,Fo,V,hk,hb⟩:=hF f g hf Y;refine CT (thn (au7 hN hv hd L l s P H (λv u=>v=.ref g/\u=H) I ⟨_,G,rfl,rfl⟩) λu s1 z36=>?_);obtain⟨v,u,O,S,e1,e2⟩:=z36;subst e1 e2;cases S;refine ER (h₀:=X.base) O.ok.mod.kin hk (thn (ha pos l s1 P u (λvs H2=>∃ds c,Ev y u c H2/\IsDs X.K H2 ds vs/\RelS X.K c H2/\Z.Phi f ds c D) O ⟨env,y,_,hE,M,U,λvs ds H' st' ev is hl rs q=>⟨ds,st',ev,is,rs,q⟩⟩) λus s2⟨vs,H2,I2,r,ds,c,ev,is,rs,q⟩=>⟨I2.kIn,?_⟩) (o0 hs) J;exact T1 Fo V hb .nil O4 I2 r ⟨ds,c,D,by rw[Ao];exact is,rs,q,hq.after ev⟩
 |clo B N b C=>
  have U:t env y λds c=>Z.PhiC B N b C ds c D:=m;obtain⟨g,R,rfl,ca,T⟩:∃g us,v=.ref g/\ad2 H g B N b us/\IsDs X.K H C us:=by cases E with|clo h1 h2 h3=>exact⟨_,_,rfl,h1,h2,h3⟩
  obtain⟨o,z,cf,cr⟩:=ca;obtain⟨k,Fo,V⟩:=hC B N b C g o z cf;refine CT (thn (au7 hN hv hd L l s P H (λv u=>v=.ref g/\u=H) I ⟨_,G,rfl,rfl⟩) λu s1 z37=>?_);obtain⟨v,u,O,S,e1,e2⟩:=z37;subst e1 e2;cases S;refine W.callWith_F (cr.fnAt O) (thn (ha pos l s1 P u (λvs H2=>∃ds c,Ev y u c H2/\IsDs X.K H2 ds vs/\RelS X.K c H2/\Z.PhiC B N b C ds c D) O ⟨env,y,_,hE,M,U,λvs ds H' st' ev is hl rs q=>⟨ds,st',ev,is,rs,q⟩⟩) λus s2⟨vs,H2,I2,r,ds,c,ev,is,rs,q⟩=>⟨(cr.mono (K:=X.K) (ev.tk M)).fnAt I2,?_⟩) (o0 hs) J;exact T1 Fo V (.all cf.bind) .nil O4 I2 r ⟨R,ds,c,D,cr.mono (K:=X.K) (ev.tk M),T.mono (ev.tk M),by rw[Ao];exact is,rs,q,hq.after ev⟩
 |_=>exact(m:False).elim
def b44{ca cb}{cp}{t}{tf}{F:Str->Bool}(Y:PE X (.Subscript ca cb cp) (up X.K tf))
  (l:∀f j,F f=AC->BJ X.K AO f=AA (AA (.ref j))->∃k J z,FnOk X.prog X.w X.K X.mg X.base CX0 k j J z (C8 X.K (Ph f))/\Room k X.A/\CI X.K (.ref j)=AC/\y0 X.K J z [])
  (g:PA X (a::es) (upA X.K n t)) (T:∀e p,a≠.Starred e p) (D:(CH pos (An es X.env)).any (·.1)=AF) :
  PE X (.Call (.Subscript ca cb cp) (a::es) [] pos) (up X.K λenv u Q=>tf env u λx c=>∃f,x=.fn f/\F f=AC/\t env c λds b=>Ph f ds b Q):=by
 intro i s M H Q I q;obtain⟨env,u,L,O,N,S,V⟩:=q;have e:eval (.Call (.Subscript ca cb cp) (a::es) [] pos) X.env=(do
  callWith pos (<-eval (.Subscript ca cb cp) X.env) [] (CH pos (An (a::es) X.env)) (FA pos (Da [] X.env))):=rfl
 refine AB (thn (Y i s M H (λv m=>∃d c,Ev u H c m/\IsD X.K m d v/\RelS X.K c m/\∃f,d=.fn f/\F f=AC/\t env c λds b=>Ph f ds b L) I ⟨env,u,_,O,N,S,λv d H' st' ev is rs q=>⟨d,st',ev,is,rs,q⟩⟩) λu s1 z38=>?_);obtain⟨v,m,P,R,d,c,o,B,y,f,e1,G,C⟩:=z38;subst e1;obtain⟨j,rfl,E⟩:∃j,v=.ref j/\BJ X.K AO f=AA (AA (.ref j)):=by cases B with|fn h=>exact⟨_,rfl,h⟩
 obtain⟨k,J,z,Fo,U,W,Z⟩:=l f j G E;cases R;refine ER P.ok.mod.kin W (thn (g pos i s1 M m (λvs H2=>∃ds b,Ev c m b H2/\IsDs X.K H2 ds vs/\RelS X.K b H2/\Ph f ds b L) P ⟨env,c,_,O.mono (o.tk N),y,C,λvs ds H' st' ev is hl rs q=>⟨ds,st',ev,is,rs,q⟩⟩) λus s2⟨vs,H2,I2,r,ds,b,ev,is,rs,q⟩=>⟨I2.kIn,?_⟩) (o0 T) D;exact T1 Fo U Z .nil O4 I2 r ⟨ds,b,L,by simp_all,rs,q,V.after (o.trans ev)⟩
def G2{o}{nm}{env}{w}(h:∀i p a,o≠.Call (.Name i p) [] [] a):Cy o nm env w=w:=by
 unfold Cy
 simp_all
def cn2{f}{C:Str->List Str}(y:∀c g,BJ X.K AO c=AA (AA (.ref g))->f∈C c->Cls X.K g/\M4 X.K g f)(v:PE X a (up X.K ta))(b:Cy a f X.env (eval a X.env)=eval a X.env):
  PE X (.Attribute a f pos) (up X.K λenv st Q=>ta env st λx st1=>∃p c j d,x=.ref p/\st1 p=AA (.ins c j)/\f∈C c/\j.lookup f=AA d/\Q d st1):=
 PE.imp (cr7 v b) λσ H Q q=>up1 q λv d H' st' Qd is rs i hq=>by
  obtain⟨p,c,j,e,rfl,s,u,l,i⟩:=i;obtain⟨g,z,m,w,t,r⟩:=rs.ins s;obtain⟨B,A⟩:=y c g t u
  rcases r.look f with⟨k,_⟩|⟨D,n,k,o,h⟩
  ·simp_all
  ·rw[k]at l;cases l;exact⟨p,g,z,m,n,is.ref_inv,w,B,A,o,hq.here h rs i⟩
def at1{o:AS}{pos}{a:List AS}{env}(d:∀i p g,o≠.Call (.Name i p) [] [] g)(b:Ee (a.length+0) (CH pos (An a env)) (FA pos (Da [] env))=AC)(c:(apos.endLine==pos.line)=AC):
  eval (.Call (.Attribute o m apos) a [] pos) env=(do
   let e <-eval o env
   Hm apos.atName
   let(f,first) <-holding [e] (Ka e m (do return (<-importBound o env).getD AC))
   callWith pos f first (CH pos (An a env)) (FA pos (Da [] env))):=by
 rw[arm_eval_Call,G2 d]
 unfold methodCall;simp only[BK]at b ⊢;rw[b];unfold methodCallPos calleeOf;simp only[c];rfl
def ca6{t:DA}{F:Str->Bool}
  (hM:∀c D,BJ X.K AO c=AA (AA (.ref D))->F (f9 c m)=AC->∃k f O L,Cls X.K D/\Meth X.K D m f/\FnOk X.prog X.w X.K X.mg X.base CX0 k f O L (C8 X.K (Ph (f9 c m)))/\Room k X.A/\y0 X.K O L [])
  (B:Ee ((a::es).length+0) (CH pos (An (a::es) X.env)) (FA pos (Da [] X.env))=AC) (u:(apos.endLine==pos.line)=AC) (N:∀i p E,ob≠.Call (.Name i p) [] [] E) (ho:PE X ob (up X.K ta)) (ha:PA X (a::es) (upA X.K n t)) (hs:∀e p,a≠.Starred e p) (M:(CH pos (An es X.env)).any (·.1)=AF) :
  PE X (.Call (.Attribute ob m apos) (a::es) [] pos) (up X.K λenv G Q=>ta env G λx b=>∃p c l,x=.ref p/\b p=AA (.ins c l)/\l.lookup m=AD/\F (f9 c m)=AC/\t env b λds g=>Ph (f9 c m) (.ref p::ds) g Q):=by
 intro j s R H Q I q;obtain⟨env,G,P,W,V,ht,hq⟩:=q;refine HQ (thn (ho j s R H (λv z=>∃p c l b,v=.ref p/\Ev G H b z/\RelS X.K b z/\b p=AA (.ins c l)/\l.lookup m=AD/\F (f9 c m)=AC/\t env b λds g=>Ph (f9 c m) (.ref p::ds) g P) I ⟨env,G,_,W,V,ht,λv d z b C is y J=>?_⟩) λu s1 z39=>?_) (at1 N B u)
 ·obtain⟨p,c,l,rfl,J⟩:=J;exact⟨p,c,l,b,is.ref_inv,C,y,J⟩
 obtain⟨v,z,Z,o,p,c,l,b,C,Y,y,h1,h2,h3,h4⟩:=z39;subst C;cases o;obtain⟨D,dx,vs,hH,hn,r⟩:=y.ins h1;obtain⟨k,f,O,L,cl,S,Fo,hr,hb⟩:=hM c D hn h3;have U:vs.lookup m=AD:=by
  rcases r.look m with⟨_,l2⟩|⟨d',v',T,_,_⟩
  ·exact l2
  ·rw[h2]at T;cases T
 refine ap2 Z hH cl S U ?_;refine ER (first:=[.ref p]) (h₀:=X.base) I.ok.mod.kin S.kp (thn (ha pos j s1 R z (λvs H2=>∃ds g,Ev b z g H2/\IsDs X.K H2 ds vs/\RelS X.K g H2/\Ph (f9 c m) (.ref p::ds) g P) Z ⟨env,b,_,W.mono (Y.tk V),y,h4,λvs ds H' st' C is U y q=>⟨ds,st',C,is,y,q⟩⟩) λus s2⟨vs,H2,I2,r2,ds,g,ev2,is2,rs2,q2⟩=>⟨I2.kIn,?_⟩) (o0 hs) M;exact T1 (us:=.ref p::us) (vs:=.ref p::vs) Fo hr hb .nil O4 I2 (.cons rfl r2) ⟨.ref p::ds,g,P,by rw[Ao];exact .cons (.ref p) is2,rs2,q2,(hq.after Y).after ev2⟩
def b32{C:Str->List Str}{t:DA}{F:Str->Bool}
  (hM:∀c E i,BJ X.K AO c=AA (AA (.ref E))->F (f9 c m)=AC->E5 C (f9 c m)=AA i->∃k f P M T,Cls X.K E/\Meth X.K E m f/\FnOk X.prog X.w X.K X.mg X.base CX0 k f P M (C8 X.K (Ph (f9 c m)))/\Room k X.A/\y0 X.K P M [.int i T])
  (B:Ee ((a::es).length+0) (CH pos (An (a::es) X.env)) (FA pos (Da [] X.env))=AC) (u:(apos.endLine==pos.line)=AC) (O:∀i p p',ob≠.Call (.Name i p) [] [] p') (ho:PE X ob (up X.K ta)) (ha:PA X (a::es) (upA X.K n t)) (hs:∀e p,a≠.Starred e p) (N:(CH pos (An es X.env)).any (·.1)=AF) :
  PE X (.Call (.Attribute ob m apos) (a::es) [] pos) (up X.K λenv J Q=>ta env J λx b=>∃p c l i,x=.ref p/\b p=AA (.ins c l)/\l.lookup m=AD/\F (f9 c m)=AC/\E5 C (f9 c m)=AA i/\t env b λds g=>Ph (f9 c m) (.ref p::(ds++[.int i])) g Q):=by
 intro j s S H Q I q;obtain⟨env,J,R,Z,Y,ht,hq⟩:=q;refine HQ (thn (ho j s S H (λv z=>∃p c l i b,v=.ref p/\Ev J H b z/\RelS X.K b z/\b p=AA (.ins c l)/\l.lookup m=AD/\F (f9 c m)=AC/\E5 C (f9 c m)=AA i/\t env b λds g=>Ph (f9 c m) (.ref p::(ds++[.int i])) g R) I ⟨env,J,_,Z,Y,ht,λv d z b D is y L=>?_⟩) λu s1 z40=>?_) (at1 O B u)
 ·obtain⟨p,c,l,i,rfl,L⟩:=L;exact⟨p,c,l,i,b,is.ref_inv,D,y,L⟩
 obtain⟨v,z,G,rx,p,c,l,i,b,D,o,y,h1,h2,h3,h5,h4⟩:=z40;subst D;cases rx;obtain⟨E,dx,vs,hH,hn,r⟩:=y.ins h1;obtain⟨k,f,P,M,T,cl,U,Fo,hr,hb⟩:=hM c E i hn h3 h5;have W:vs.lookup m=AD:=by
  rcases r.look m with⟨_,l2⟩|⟨d',v',V,_,_⟩
  ·exact l2
  ·rw[h2]at V;cases V
 refine ap2 G hH cl U W ?_;refine ER (first:=[.ref p]) (h₀:=X.base) I.ok.mod.kin U.kp (thn (ha pos j s1 S z (λvs H2=>∃ds g,Ev b z g H2/\IsDs X.K H2 ds vs/\RelS X.K g H2/\Ph (f9 c m) (.ref p::(ds++[.int i])) g R) G ⟨env,b,_,Z.mono (o.tk Y),y,h4,λvs ds H' st' D is W y q=>⟨ds,st',D,is,y,q⟩⟩) λus s2⟨vs,H2,I2,r2,ds,g,ev2,is2,rs2,q2⟩=>⟨I2.kIn,?_⟩) (o0 hs) N;exact T1 (us:=.ref p::us) (vs:=.ref p::vs) Fo hr hb (dvs:=[.int i]) (.cons ⟨_,rfl⟩ .nil) O4 I2 (.cons rfl r2) ⟨.ref p::(ds++[.int i]),g,R,.cons (.ref p) (is2.append (.cons (.int i) .nil)),rs2,q2,(hq.after o).after ev2⟩
def b75{F:Str->Bool}
  (Y:∀c j,BJ X.K AO c=AA (AA (.ref j))->F (f9 c m)=AC->∃k f z u,Cls X.K j/\Meth X.K j m f/\FnOk X.prog X.w X.K X.mg X.base CX0 k f z u (C8 X.K (Ph (f9 c m)))/\Room k X.A/\y0 X.K z u [])
  (e:(apos.endLine==pos.line)=AC) (y:∀i p M,ob≠.Call (.Name i p) [] [] M) (S:PE X ob (up X.K ta)) :
  PE X (.Call (.Attribute ob m apos) [] [] pos) (up X.K λenv l Q=>ta env l λx a=>∃p c b,x=.ref p/\a p=AA (.ins c b)/\b.lookup m=AD/\F (f9 c m)=AC/\Ph (f9 c m) [.ref p] a Q):=by
 intro g s G H Q I q;obtain⟨env,l,E,hE,W,O,R⟩:=q;refine HQ (thn (S g s G H (λv o=>∃p c b a,v=.ref p/\Ev l H a o/\RelS X.K a o/\a p=AA (.ins c b)/\b.lookup m=AD/\F (f9 c m)=AC/\Ph (f9 c m) [.ref p] a E) I ⟨env,l,_,hE,W,O,λv d o a B is n t=>?_⟩) λu s1 z41=>?_) (at1 y rfl e)
 ·obtain⟨p,c,b,rfl,t⟩:=t;exact⟨p,c,b,a,is.ref_inv,B,n,t⟩
 obtain⟨v,o,C,L,p,c,b,a,B,e1,n,h1,h2,h3,h4⟩:=z41;subst B;cases L;obtain⟨j,dx,J,Z,T,r⟩:=n.ins h1;obtain⟨k,f,z,u,cl,D,Fo,P,V⟩:=Y c j T h3;have U:J.lookup m=AD:=by
  rcases r.look m with⟨_,N⟩|⟨d',v',l1,_,_⟩
  ·exact N
  ·simp_all
 refine ap2 C Z cl D U ?_;exact Kr C.kIn D.kp (T1 (vs:=[.ref p]) Fo P V .nil O4 C (.cons rfl .nil) ⟨[.ref p],a,E,by exact .cons (.ref p) .nil,n,h4,R.after e1⟩)
def be2{c:Str}{f:Hp}{st e:Sto}{t:DK}{Q:VK}(E:BJ X.K AO c=AA (AA (.ref Ca)))(F:Ev st H e f)(C:IsDs X.K f ds vs)(r:RelS X.K e f)(D:w6 X.K st H t Q)
  (q:∀p,e p=AD->sp (.ref p::ds) (c9 e p (.ins c [])) λv st2=>v=.non/\t (.ref p) st2):∀x a,f x=AD->f a=AD->a≠x->C8 X.K sp (.ref x::(vs++[])) (upd (upd f a (.own x)) x (.ins Ca a [])) (λv H2=>v=.non/\Q (.ref x) H2) E0:=by
 intro x a l g m;have j:TK X.K f (upd f a (.own x)):=TK.new g;have i:upd f a (.own x) x=AD:=by rw[j7 (λz=>m z.symm)];exact l
 have h:TK X.K (upd f a (.own x)) (upd (upd f a (.own x)) x (.ins Ca a [])):=TK.new i;refine⟨.ref x::ds,c9 e x (.ins c []),_,by rw[Ao];exact .cons (.ref x) ((C.mono j).mono h),(r.new g).putAny (ob:=.ins c []) h ⟨Ca,a,[],p8,E,.nil⟩ (by rw[i];exact λ_=>nofun),q x (r.free l),λv d H2 st2 ev2 is2 rs2 k=>?_⟩;obtain⟨rfl,k⟩:=k;cases is2;refine⟨rfl,D _ (.ref x) H2 st2 (λb o hb hs=>?_) (.ref x) rs2 k⟩;obtain⟨⟨A,n,w⟩,J⟩:=F b o hb hs;have s:b≠x:=z5 n l;have B:b≠a:=z5 n g;obtain⟨⟨y,I,u⟩,G⟩:=ev2 b A (by rw[j7 s,j7 B];exact n) (by rw[G1 s];exact J);exact⟨⟨y,I,w.trans u⟩,G⟩
def cd3{c}{k}{t}{f}(o:BJ X.K AO c=AA (AA (.ref Ca)))(M:Mk X.K Ca f)(B:FnOk X.prog X.w X.K X.mg X.base CX0 k f fd ps (C8 X.K sp))(l:Room (k+1) X.A)(s:Gl X c)(r:X.mg c=AA (.ref Ca))(u:y0 X.K fd ps [])
  (x:PA X (a::es) (upA X.K n t)) (h:(c==("__debug__":Str))=AF) (j:∀e p,a≠.Starred e p) (g:(CH pos (An es X.env)).any (·.1)=AF) :
  PE X (.Call (.Name c p) (a::es) [] pos) (up X.K λenv d Q=>t env d λds st1=>∀p,st1 p=AD->sp (.ref p::ds) (c9 st1 p (.ins c [])) λv st2=>v=.non/\Q (.ref p) st2):=
 PE.imp (ck3 M B l s r u .nil O4 x h (o0 j) g) λσ H Q q=>by
  obtain⟨env,d,C,z,y,i,m⟩:=q;exact⟨env,d,_,z,y,i,λvs ds H' st' ev is hl rs=>be2 o ev is rs m⟩
def b73{c}{k}{f}(h:BJ X.K AO c=AA (AA (.ref Ca)))(M:Mk X.K Ca f)(o:FnOk X.prog X.w X.K X.mg X.base CX0 k f fd ps (C8 X.K sp))(e:Room (k+1) X.A)(j:Gl X c)(i:X.mg c=AA (.ref Ca))(l:y0 X.K fd ps [])(b:(c=="__debug__")=AF):
  PE X (.Call (.Name c p) [] [] pos) (up X.K λenv a Q=>∀p,a p=AD->sp [.ref p] (c9 a p (.ins c [])) λv st2=>v=.non/\Q (.ref p) st2):=
 PE.imp (b34 M o e j i l .nil O4 b) λσ H Q q=>by
  obtain⟨n,a,s,r,m,d,g⟩:=q;exact be2 h Ev.refl .nil m g d
def tyL{K:AQ}{st:Sto}{d:D}{v:V}(c:IsD K H d v)(b:RelS K st H)(h:F0 d st):tyV K "list" v H:=by
 cases d<;>first|exact AU h|skip
 obtain⟨g,f⟩:=h;obtain⟨a,e,_⟩:=b.rd f;rw[c.ref_inv];exact .inl ⟨rfl,a,e⟩
def aw5{nm}{id}{r}{g:D->D->Sto->DK->Prop}(m:Slot "list" nm id)(B:typeOf (.builtin id)=pure (.type "method_descriptor"))(U:MtR X id r)
  (Y:PE X a (up X.K ta)) (W:PE X b (up X.K tb)) (k:∀i p O,a≠.Call (.Name i p) [] [] O) (C:∀e p,b≠.Starred e p) (j:(apos.endLine==pos.line)=AC)
  (A:∀v w d e l c o Q,IsD X.K l d v->IsD X.K l e w->RelS X.K c l->g d e c o->w6 X.K c l o Q->r v [w] l Q) :
  PE X (.Call (.Attribute a nm apos) [b] [] pos) (up X.K λenv s Q=>ta env s λx st1=>F0 x st1/\tb env st1 λy h=>g x y h Q):=
 PE.imp (c88 PySem.F.plainAttrs_list m B U Y (L9 W C) (G2 k) (by rw[o0 C];rfl) j (o0 C) rfl) λσ H Q q=>by
  obtain⟨env,s,o,J,I,S,T⟩:=q;refine⟨env,s,_,J,I,S,λv d H1 st1 L is u G=>⟨tyL is u G.1,?_⟩⟩;refine⟨env,st1,λds h=>match ds with|[e]=>g d e h o|_=>False,J.mono (L.tk I),u,G.2,λvs ds l c n z V t N=>?_⟩
  match ds,V with
  |[e],_=>
   obtain⟨w,Z,rfl,R,P⟩:=z.inv_cons;rw[P.inv_nil];exact A v w d e l c o Q (is.mono (n.tk u)) R t N ((T.after L).after n)
def cq4(q:PE X a (up X.K ta))(o:PE X b (up X.K tb))(f:∀i p l,a≠.Call (.Name i p) [] [] l)(n:∀e p,b≠.Starred e p)(c:(apos.endLine==pos.line)=AC):
  PE X (.Call (.Attribute a "append" apos) [b] [] pos) (up X.K λenv st Q=>ta env st λx st1=>F0 x st1/\tb env st1 λy st2=>ae0 x y st2 Q):=
 aw5 PySem.F.slot_list_append PySem.F.type_list_append a77 q o f n c λv w d e H' st' Qd Q i1 i2 rs g hq=>by
  cases d<;>first|exact AU g|skip
  obtain⟨s,h,m,g⟩:=g;obtain⟨k,j,r⟩:=rs.lst h;rw[i1.ref_inv];exact⟨_,k,w,rfl,rfl,j,r.len▸m,hq _ _ _ _ (Ev.put h) .non (rs.putOld j (r.append (.cons i2 .nil))) g⟩
def bt3(l:AH)(items:Array AG)(n:Nat)(b:AH)(a:Array AG)(k:Nat)(j:Array (Option AG))(m:¬(!items.isEmpty&&CL (items.size+a.size))=AC)(f:items.size<=sizeLine)(e:items.size+a.size<=sizeLine+1):
  Meets (DV.«list.extend» ⟨[.ref l,.ref b],[]⟩) (λ_ R s=>s.heap.get? l=AA {cls:=.type "list",dict:=AD,data:=.seq items n,slots:=#[]}/\s.heap.get? b=AA {cls:=.type "tuple",dict:=AD,data:=.seq a k,slots:=j}/\R (.ok (.ret Bz)) {s with heap:=s.heap.update l (DN λx=>x++a),toks:=s.toks}):=
 .of_wp λprog w A R s h=>by
  obtain⟨r,g,d,p,q⟩:=s;obtain⟨i,o,h⟩:=h;have z:=AutoSeq1.idx_int;have y:=AutoSeq1.sub_tuple_tuple;have v:=AutoSeq1.sub_list_list;have u:=AutoSeq1.sub_tuple_list;have t:=AutoSeq1.sub_list_tuple;have c:(items++a).size<=sizeLine+1:=by rw[Array.size_append];exact e
  wp_walk using(Hj i rfl (hz:=f) (_hz':=c)),Gj i,Gj o;exact⟨_,rfl,h⟩
abbrev a93(K:AQ):V->List V->Hp->VK->Prop:=λx vs H Q=>∃l b xs zs,x=.ref l/\vs=[.ref b]/\H l=AA (.lst xs)/\SqT K H b zs/\xs.length+zs.length<=sizeLine/\Q .non (upd H l (.lst (xs++zs)))
def bu8:MtM X "list.extend" (a93 X.K):=by
 intro i s J H x O v P Q I y A h;obtain⟨l,b,N,L,rfl,rfl,j,E,R,q⟩:=h;cases y;obtain⟨u,rfl,B⟩:=A.one;cases B;obtain⟨z,c,n,r,S,e⟩:=I.lstM j;obtain⟨a,g,⟨o,F,p,m,C,k⟩,M⟩:=I.tupleD E;obtain⟨G,T,t,w⟩:=o;simp only at p m k;subst p m k;have D:=g.length;have f:c.toArray.size+a.toArray.size<=sizeLine:=by rw[Ad,Ad];lia
 have d:¬(!c.toArray.isEmpty&&CL (c.toArray.size+a.toArray.size))=AC:=by
  rw[ba2 f,Je];exact AI
 refine Ed JO ⟨_,e,rfl⟩ JD (Ir _ _)
  (bt3 l c.toArray n b a.toArray C w d (by rw[Ad];lia) ⋯) ⟨e,F,?_⟩
 refine⟨.non,_,I.lset (its':=c++a) j e ∎ (r.append g) ?_,rfl,q⟩;rw[Ac];lia
def ck1:MtM X "list.extend" λx vs H Q=>bg9 x vs H Q\/a93 X.K x vs H Q:=λpins s σ H x vs v us Q I rx rv h=>h.elim (bx0 pins s σ H x vs v us Q I rx rv) (bu8 pins s σ H x vs v us Q I rx rv)
def cx6(ha:PE X a (up X.K ta))(hb:PE X b (up X.K tb))(hbase:∀i p p',a≠.Call (.Name i p) [] [] p')(hs:∀e p,b≠.Starred e p)(hline:(apos.endLine==pos.line)=AC):
  PE X (.Call (.Attribute a "extend" apos) [b] [] pos) (up X.K λenv st Q=>ta env st λx st1=>F0 x st1/\tb env st1 λy st2=>Y8 x y st2 Q):=
 aw5 PySem.F.slot_list_extend PySem.F.type_list_extend ck1 ha hb hbase hs hline λv w d e H' st' Qd Q i1 i2 rs ht hq=>by
  cases d<;>first|exact AU ht|(cases e<;>first|exact AU ht|skip)
  ·obtain⟨ds,hr,hz,ht⟩:=ht;obtain⟨vs,hH,r⟩:=rs.lst hr;obtain⟨b,ws,rfl,hq2,r2⟩:=i2.tup_inv;rw[i1.ref_inv];exact .inr ⟨_,_,vs,ws,rfl,rfl,hH,hq2,by rw[<-r.len,<-r2.len];exact hz,hq _ _ _ _ (Ev.put hr) .non (rs.putOld hH (r.append r2)) ht⟩
  ·obtain⟨ds,es,hr,hr2,hz,ht⟩:=ht;obtain⟨vs,hH,r⟩:=rs.lst hr;obtain⟨ws,hH2,r2⟩:=rs.lst hr2;rw[i1.ref_inv,i2.ref_inv];exact .inl ⟨_,_,vs,ws,rfl,rfl,hH,hH2,by rw[<-r.len,<-r2.len];exact hz,hq _ _ _ _ (Ev.put hr) .non (rs.putOld hH (r.append r2)) ht⟩
def b57(ha:PE X a (up X.K ta))(hb:PE X b (up X.K tb))(hbase:∀i p p',a≠.Call (.Name i p) [] [] p')(hs:∀e p,b≠.Starred e p)(hline:(apos.endLine==pos.line)=AC):
  PE X (.Call (.Attribute a "pop" apos) [b] [] pos) (up X.K λenv st Q=>ta env st λx st1=>F0 x st1/\tb env st1 λy st2=>au5 x y st2 Q):=
 aw5 PySem.F.slot_list_pop PySem.F.type_list_pop b80 ha hb hbase hs hline λv w d e H' st' Qd Q i1 i2 rs ht hq=>by
  cases d<;>first|exact AU ht|(cases e<;>first|exact AU ht|skip)
  rename_i i;obtain⟨⟨b1,b2⟩,ds,k,d,hr,hk,hd,ht⟩:=ht;obtain⟨vs,hH,r⟩:=rs.lst hr;obtain⟨v',hv',is'⟩:=r.get hd;rw[i1.ref_inv,i2.int_inv];obtain⟨q1,q2,q3,q4⟩:=at8 hk;exact⟨_,vs,_,k,v',rfl,rfl,hH,⋯,⋯,by rw[<-r.len];exact q1,hv',hq _ _ _ _ (Ev.put hr) (is'.mono (TK.put hH)) (rs.putOld hH (r.erase k)) ht⟩
def cn9(t:PE X a (up X.K ta))(c:∀i p s,a≠.Call (.Name i p) [] [] s)(b:(apos.endLine==pos.line)=AC):
  PE X (.Call (.Attribute a "pop" apos) [] [] pos) (up X.K λenv st Q=>ta env st λx st1=>ae4 x st1 Q):=
 PE.imp (bl5 PySem.F.plainAttrs_list PySem.F.slot_list_pop PySem.F.type_list_pop cn1 t (G2 c) b) λσ H Q q=>up1 q λv d H' st' Qd is rs g hq=>by
  cases d<;>first|exact AU g|skip
  obtain⟨j,d,n,g⟩:=g;obtain⟨f,h,r⟩:=rs.lst n;have m:=r.len;rw[Ac,EA]at m;obtain⟨o,l,k⟩:=r.get (i:=j.length) (d:=d) ∎;rw[is.ref_inv];refine⟨.inl ⟨rfl,f,.inl (.inl h)⟩,_,f,o,rfl,rfl,h,by rw[<-m];exact l,hq _ _ _ (c9 st' _ (.lst j)) (Ev.put n) (k.mono (TK.put h)) (rs.putOld h ?_) g⟩;have e:f.dropLast=f.take j.length:=by rw[List.dropLast_eq_take,<-m,Fu]
  rw[e];have q:=r.take j.length
  rwa [JT]at q
  rfl
end
end Ek
namespace Ek
open PySem PySem.Spec PyProof.Rows L2
variable [Tbs]
variable{A:BW}{s:AJ}{items:Array AG}{x:AG}{j:Nat}
theorem ba7{prog}{w}{E:AG->AJ->Prop}{e:Nat->Bool}(l:j<items.size)(g:∀i(h:i<items.size),IW A s items[i] x (e i))
  (c:e j=AC) (b:∀i,i<j->e i=AF):∀k i,i+k=items.size->i<=j ->
   AR (model prog w) A (forIn (List.range' i k) ((AD:Option PySem.Fin),()) λ(i:Nat)p=>
      match items[i]? with
      |some y=>do
       let a <-eqBool y x
       if a=AC then do
         let a <-retInt (i:Int)
         pure (ForInStep.done (AA a,()))
        else pure (Bs (AD,()))
      |x=>pure (Bs (AD,())))
    (λr s'=>r.1=AA (PySem.Fin.done (.ret (.int j s.toks)))/\s'={s with toks:=s.toks+1}) E s
 |0,i,n,m=>by lia
 |k+1,i,n,m=>by
  have f:i<items.size:=by lia
  rw[List.range'_succ,Gf];have o:items[i]?=AA items[i]:=by simp[f]
  rw[o];refine AB (AB (g i f prog w _ _ ?_))
  by_cases d:i=j
  ·subst d;rw[c,if_pos rfl];refine AB ?_;refine AB (HZ ?_);exact AL (AL (AL ⟨rfl,rfl⟩))
  ·rw[b i ⋯,if_neg AI];exact AL (ba7 l g c b k (i+1) ⋯ ⋯)
def bt2{prog}{w}{E}{a}{e:Nat->Bool}{Q}(d:s.heap.IsTuple a items)(k:j<items.size)(l:∀i h,IW A.in1 s items[i] x (e i))
  (c:e j=AC) (b:∀i,i<j->e i=AF) (p:Q (.int j s.toks) {s with toks:=s.toks+1}) :
  AR (model prog w) A (call (.builtin "tuple.index") [.ref a,x]) Q E s:=by
 obtain⟨o,g,r,n,m⟩:=id d;refine BM F.slot_tuple_index d.typeIs F.entry_tuple_index ?_ (F.args_tuple_index_2 _ _);refine AB (Db rfl ?_);dsimp only;refine AB ?_;refine AB (Bk g m (AL ?_));refine AB (AL (AB (AL (AB ?_))));rw[Jg];have f:(Fv [0:min items.size items.size])=items.size:=by simp[]
 rw[f];refine Bq (ba7 k l c b items.size 0 ⋯ (Bx _)) (λr s' h=>?_) λ_ _ h=>h;obtain⟨q,rfl⟩:=h;rw[q];exact AL ⟨_,rfl,p⟩
def bv9{prog:Al}{w:Ay}{E:AG->AJ->Prop}{a:AH}{e:AG->Bool}{Q:AG->AJ->Prop}(k:s.heap.IsList a items)(l:j<items.size)(hz:items.size<=sizeLine)(o:∀y,y∈items->IW A.in1 s y x (e y))
  (c:e items[j]=AC) (b:∀m(t:m<items.size),m<j->e items[m]=AF) (p:Q (.int j s.toks) {s with toks:=s.toks+1}) :
  AR (model prog w) A (call (.builtin "list.index") [.ref a,x]) Q E s:=by
 obtain⟨⟨r,q,h,i⟩,d,g,n,f⟩:=id k;simp only at g f;subst g f;have u:sizeLine=16777216:=rfl;exact Ed PySem.F.slot_list_index ⟨_,d,rfl⟩ PySem.F.entry_list_index (PySem.F.args_list_index_2 _ _) (SeqAt.list_indexAt a items n q i x e j l ⋯ c b) ⟨d,o,p⟩
section
variable {X:Cx} {a b c:AS} {ta tb tc:DT} {pos p:Pos}
def df9{pins}{f:L2.St}{H}{v}{u}{d}(I:L2.Inv X pins f H s)(j:IsD X.K H d v)(g:i8 v u)(h:∃c,d=.tup c):s.TypeIs u "tuple"/\∀a,u=.ref a->∃b,s.heap.get? a=AA b/\b.dict=AD:=by
 obtain⟨c,rfl⟩:=h;obtain⟨q,t,rfl,k,r⟩:=j.tup_inv;cases g;obtain⟨i,w,⟨o,l,p,m,n,y⟩,x⟩:=I.tupleD k;exact⟨⟨o,l,p⟩,λa e=>by simp_all⟩
open Classical in
abbrev aw9(h:BI)(x:Ak)(u:AG):Bool:=AE (∃dt as,Reads h u dt as/\Av dt x=AC)
open Classical in
def as8{h:BI}{x dt:Ak}{u:AG}{as:List AH}(r:Reads h u dt as)(hc:dt.canLay0=AC):aw9 h x u=Av dt x:=by
 unfold aw9;cases hb:Av dt x with
 |true=>exact decide_eq_true ⟨dt,as,r,hb⟩
 |false=>
  refine decide_eq_false λ z42=>?_;obtain⟨d',as',r',hb'⟩:=z42;rw[<-LQ dt d' u as as' hc r r',hb]at hb';cases hb'
def b41{R:Pos}(hu:X.A.units+200<Bv)(ha:PE X a (up X.K ta))(hb:PE X b (up X.K tb))(D:∀i p p',a≠.Call (.Name i p) [] [] p')(hs:∀e p,b≠.Starred e p)(Z:(R.endLine==pos.line)=AC):
  PE X (.Call (.Attribute a "index" R) [b] [] pos) (up X.K λenv st Q=>ta env st λx g=>ae1 x g/\tb env g λy f=>S9 x y f Q):=by
 intro O s σ H Q I q;obtain⟨env,st,Qd,hE,hS,ht,hq⟩:=q;refine Iq (G2 D) (by rw[o0 hs];rfl) Z rfl (thn (ha O s σ H (λv H1=>∃d g,Ev st H g H1/\IsD X.K H1 d v/\RelS X.K g H1/\ae1 d g/\tb env g λy f=>S9 d y f Qd) I ⟨env,st,_,hE,hS,ht,λv d H1 g ev is rs q1=>⟨d,g,ev,is,rs,q1⟩⟩) λu s1 z43=>?_);obtain⟨v,H1,I1,r1,d,g,ev,is,rs,q1,q2⟩:=z43;have hA0:=L9 hb hs pos O s1 σ H1 (λvs S=>∃w e f,vs=[w]/\Ev g H1 f S/\IsD X.K S e w/\RelS X.K f S/\S9 d e f Qd) I1 ⟨env,g,(λds f=>match ds with|[e]=>S9 d e f Qd|_=>False),hE.mono (ev.tk hS),rs,q2,λvs ds S f z B hl l q3=>by
  match ds,hl with
  |[e],_=>
   obtain⟨w,ws,rfl,i1,i2⟩:=B.inv_cons;rw[i2.inv_nil];exact⟨w,e,f,rfl,z,i1,l,q3⟩⟩
 rw[o0 hs]at hA0;cases d with
 |tup ds=>
  obtain⟨h1,h2⟩:=df9 I1 is r1 ⟨_,rfl⟩;refine⟨"tuple","tuple.index",PySem.F.plainAttrs_tuple,PySem.F.slot_tuple_index,PySem.F.type_tuple_index,h1,h2,?_⟩;rw[o0 hs];refine CD (by rfl) (Cv ?_);refine thn hA0 λus s2 z44=>?_;obtain⟨vs,S,N,r2,w,e,f,ev',z,B,l,q3⟩:=z44;subst ev';obtain⟨uw,rfl,T⟩:=r2.one;obtain⟨p1,p2,hd,j,dj,t,J,Y,hQ⟩:=q3;have is':=is.mono (z.tk rs);obtain⟨q,vs,rfl,W,r⟩:=is'.tup_inv;cases r1;obtain⟨c,rv,pl,hz⟩:=N.tuple W;have k:c.length=ds.length:=by rw[<-rv.length,<-r.len]
  have hj:j<ds.length:=(AX.mp t).1;obtain⟨as,ra⟩:=E3 N B p1 T;refine bt2 (items:=c.toArray) (j:=j) (e:=λi=>match ds[i]? with|some d=>deq d e|none=>AF) (show s2.heap.IsTuple q c.toArray from pl) (by simpa[k]using hj) (λi P=>?_) (by rw[t];exact J) (λi P=>?_) ?_
  ·have L:i<ds.length:=by simpa[k]using P
   have E:ds[i]?=AA ds[i]:=AM L;rw[E];obtain⟨v,hv,V⟩:=r.get E;obtain⟨u,C,U⟩:=rv.get hv;have pp:=af1 p2 ds[i] (JU L);obtain⟨M,G⟩:=E3 N V pp U;have e2:c.toArray[i]=u:=by
    have:c[i]?=AA c[i]:=AM ⋯;rw[this]at C;simpa using BA C
   rw[e2];exact GJ _ _ X.A.in1 s2 u uw M as G ra (G5 _ pp) (G5 _ p1) (ab6 hu hd)
  ·have L:i<ds.length:=by lia
   have E:ds[i]?=AA ds[i]:=AM L;rw[E];exact Y i _ P E
  ·exact⟨.int j,S,N.tok _,⟨_,rfl⟩,((hq.after ev).after z).here (.int _) l hQ⟩
 |ref a0=>
  obtain⟨ds0,hr0⟩:=q1;have ev1:=is.ref_inv;subst ev1;cases r1;obtain⟨vs0,hq0,_⟩:=rs.rd hr0;obtain⟨its0,_,pl0,_⟩:=I1.list hq0;refine⟨"list","list.index",PySem.F.plainAttrs_list,PySem.F.slot_list_index,PySem.F.type_list_index,pl0.isList.typeIs,λa e=>?_,?_⟩
  ·cases e;obtain⟨o,n,g1,g2,g3,g4⟩:=pl0;exact⟨o,g1,g3⟩
  rw[o0 hs];refine CD (by rfl) (Cv ?_);refine thn hA0 λus s2 z45=>?_;obtain⟨vs,S,N,r2,w,e,f,ev',z,B,l,q3⟩:=z45;subst ev';obtain⟨uw,rfl,T⟩:=r2.one;obtain⟨ds,hr,p1,p2,hd,j,dj,t,J,Y,hQ⟩:=q3;obtain⟨vs,W,r⟩:=l.rd hr;obtain⟨c,rv,pl,hz⟩:=N.list W;have k:c.length=ds.length:=by rw[<-rv.length,<-r.len]
  have hj:j<ds.length:=(AX.mp t).1;obtain⟨as,ra⟩:=E3 N B p1 T;have at':∀(i:Nat)(P:i<ds.length),∃M,Reads s2.heap (c[i]'⋯) (ds[i]).py M/\(ds[i]).py.canLay0=AC:=λi P=>by
   have E:ds[i]?=AA ds[i]:=AM P;obtain⟨v,hv,V⟩:=r.get E;obtain⟨u,C,U⟩:=rv.get hv;have pp:=af1 p2 ds[i] (JU P);obtain⟨M,G⟩:=E3 N V pp U;have e2:c[i]'⋯=u:=by
    have:c[i]?=AA (c[i]'⋯):=AM ⋯;rw[this]at C;exact BA C
   rw[e2];exact⟨M,G,G5 _ pp⟩
  refine bv9 (items:=c.toArray) (j:=j) (e:=aw9 s2.heap e.py) pl.isList (by simpa[k]using hj) (by rw[Ad,<-rv.length];exact hz) (λy hy=>?_) ?_ (λm hm hlt=>?_) ?_
  ·obtain⟨i,P,rfl⟩:=FH.mp (show y∈c by simpa using hy);obtain⟨M,G,cb⟩:=at' i ⋯;rw[as8 G cb];exact GJ _ _ X.A.in1 s2 _ uw M as G ra cb (G5 _ p1) (ab6 hu hd)
  ·obtain⟨M,G,cb⟩:=at' j hj;have E:c.toArray[j]'(by simpa[k]using hj)=c[j]'⋯:=by simp
   rw[E,as8 G cb];have e2:dj=ds[j]:=by rw[AM hj]at t;exact(BA t).symm
   rw[e2]at J;exact J
  ·have hm':m<ds.length:=by lia
   obtain⟨M,G,cb⟩:=at' m hm';have E:c.toArray[m]'hm=c[m]'⋯:=by simp
   rw[E,as8 G cb];exact Y m ds[m] hlt (AM hm')
  ·exact⟨.int j,S,N.tok _,⟨_,rfl⟩,((hq.after ev).after z).here (.int _) l hQ⟩
 |_=>exact q1.elim
end
end Ek
namespace Ek
open PySem PySem.Spec PyProof.Rows L2
variable [Tbs]
variable{ks:List Str}{keys:List (Option AS)}{values:List AS}{s:AJ}{g:Str}{kvs:List (Str×D)}
section
variable {X:Cx} {a b c:AS} {ta tb tc:DT} {pos p:Pos}
abbrev DPs(X:Cx)(pos:Pos)(keys:List (Option AS))(values:List AS)(ks:List Str)(t:DA):Prop:=
 ∃trs,PPs X pos keys values trs/\∀(σ:L2.St)(H:Hp)(Q:List (V×V)->Hp->Prop),(∃env st Qd,RelE X.K H env σ/\RelS X.K st H/\t env st Qd /\
  ∀vs ds H' st',Ev st H st' H'->IsDs X.K H' ds vs->ds.length=ks.length->RelS X.K st' H'->Qd ds st'->Q ((ks.zip vs).map λkv=>(V.str kv.1,kv.2)) H')->ac1 trs σ H Q
def cw2:DPs X pos [] [] [] (λ_ st Q=>Q [] st):=⟨[],cd2,λσ H Q⟨env,st,Qd,hE,hS,ht,hq⟩=>hq [] [] H st Ev.refl .nil rfl hS ht⟩
def cc5{k}{j}{kp}{t}(m:PE X a (up X.K ta))(i:DPs X pos keys values ks t):
  DPs X pos (AA (.Constant (.str k) j kp)::keys) (a::values) (k::ks) λenv c Q=>ta env c λd st1=>t env st1 λds st2=>Q (d::ds) st2:=by
 obtain⟨g,o,n⟩:=i;refine⟨_,b83 bi5 m o,λσ H Q z46=>?_⟩;obtain⟨env,c,p,f,e,h,l⟩:=z46;exact⟨env,c,_,f,e,h,λv d H1 st1 ev is rs q1=>n σ H1 _ ⟨env,st1,_,f.mono (ev.tk e),rs,q1,λvs ds H2 st2 ev2 is2 hl=>l (v::vs) (d::ds) H2 st2 (ev.trans ev2) (.cons (is.mono (ev2.tk rs)) is2) (by simp[hl])⟩⟩
theorem ap7:∀(a b:List (Key×V)),(∀k∈a.map (·.1),r8 b k=AD)->(a.map (·.1)).Nodup->M0 b a=b++a
 |[],b,_,_=>by simp[M0]
 |(k,v)::r,b,h,f=>by
  have c:=BU.mp ((f));show M0 (A6 b k v) r=_;rw[b63 v (h k ∎),ap7 r _ (λk' hk'=>?_) c.2,BV]
  ·rfl
  ·have d:k'≠k:=λz=>c.1 ((z▸hk'));have e:=h k' (by simp only[AZ,AK];exact .inr hk');unfold r8 at e ⊢;rw[Option.map_eq_none_iff]at e ⊢;rw[List.find?_append,e];simp[BE d]
theorem a74:∀(b:List Str)(c:List D)(a:List V)(w:Str)(d:D){K}{H},IsDs K H c a->p6 (b.zip c) w=AA d->∃v,r8 ((b.zip a).map λkv=>((Bi kv.1:Key),kv.2)) (Bi w)=AA v/\IsD K H d v
 |[],c,a,w,d,K,H,r,h=>by simp[p6]at h
 |k::b,[],a,w,d,K,H,r,h=>by simp[p6]at h
 |k::b,e::c,a,w,d,K,H,r,h=>by
  obtain⟨v,g,rfl,n,m⟩:=r.inv_cons;simp only[DR,p6]at h
  by_cases f:k=w
  ·rw[if_pos f]at h;cases h;refine⟨v,?_,n⟩;unfold r8;simp[f]
  ·rw[if_neg f]at h;obtain⟨i,l,j⟩:=a74 b c g w d m h;refine⟨i,?_,j⟩;unfold r8 at l ⊢;simp only[DR,AZ,CJ];have:AE ((Bi k:Key)=Bi w)=AF:=decide_eq_false λz=>f (GC z);rwa[this]
def cd5{t:DA}{dp:Pos}(hu:X.A.units+200<Bv)(hd:DPs X dp keys values ks t)(m:keys.all (·.isSome)=AC)(hl:keys.length=values.length)(h0:keys≠[])(hkl:keys.length=ks.length)(D:keys.length<=15)(W:ks.Nodup)
  (hb:PE X b (up X.K tb)) (B:∀l u s p,b≠.Slice l u s p) :
  PE X (.Subscript (.Dict keys values dp) b pos) (up X.K λenv n Q=>t env n λds st1=>tb env st1 λx st2=>∃w d,x=.str w/\p6 (ks.zip ds) w=AA d/\Q d st2):=by
 obtain⟨N,h1,h2⟩:=hd;refine PE.imp (cf0 ⋯ (bg3 h1 m hl h0 D) hb (ap1 B)) λσ H Q q=>?_;obtain⟨env,n,Qd,G,C,ht,hq⟩:=q;intro p g;have S:n p=AD:=C.free g;refine h2 σ _ _ ⟨env,n,_,G.mono (TK.new g),C.new g,ht,λvs ds H2 st2 ev2 is2 hl2 rs2 q2=>?_⟩;obtain⟨E,h⟩:=ev2.get p8 S (λ_=>nofun);refine⟨E,(ks.zip vs).map λkv=>((Bi kv.1:Key),kv.2),by rw[BN];rfl,?_,?_⟩
 ·rw[AT,IG,<-is2.len,hl2];lia
 have hm:M0 [] ((ks.zip vs).map λkv=>((Bi kv.1:Key),kv.2))=(ks.zip vs).map λkv=>((Bi kv.1:Key),kv.2):=by
  rw[ap7 _ [] (λ_ _=>rfl)]
  ·rfl
  ·rw[BN];have:((λx:Key×V=>x.1)∘λkv:Str×V=>((Bi kv.1:Key),kv.2))=(λx:Str=>(Bi x:Key))∘(λkv:Str×V=>kv.1):=rfl;rw[this,<-BN];have e:(ks.zip vs).map (λkv:Str×V=>kv.1)=ks:=by
    have:=List.map_fst_zip (l₁:=ks) (l₂:=vs) (by rw[<-is2.len,hl2];exact Ab _);exact this
   rw[e];exact Dv _ (λa b hab z=>hab (GC z)) W
 rw[hm];have f:TK X.K H2 (upd H2 p (.dK ((ks.zip vs).map λkv=>((Bi kv.1:Key),kv.2)))):=TK.putD E;have i:RelS X.K st2 (upd H2 p (.dK ((ks.zip vs).map λkv=>((Bi kv.1:Key),kv.2)))):=rs2.stay f (λc u z=>j7 λw=>by rw[w,h]at z;cases z) (ah0 (by rw[E];exact λ_ z=>by cases z));refine⟨env,st2,_,((G.mono (TK.new g)).mono (ev2.tk (C.new g))).mono f,i,q2,λy x H4 st4 ev4 is4 rs4 r=>?_⟩;obtain⟨w,d,rfl,Y,r⟩:=r;obtain⟨e4,R⟩:=ev4.get p8 h (λ_=>nofun);have j:=(is2.mono f).mono (ev4.tk i);obtain⟨v,Z,y⟩:=a74 ks ds vs w d j Y;refine⟨p,v,rfl,?_,hq v d H4 st4 (λc o hc B=>?_) y rs4 r⟩
 ·rw[is4.str_inv,<-Z];exact B4.k (k:=Bi w) e4
 ·have F:c≠p:=z5 hc g;obtain⟨⟨U,M,P⟩,J⟩:=ev2 c o (by rw[j7 F];exact hc) B;obtain⟨⟨T,L,O⟩,I⟩:=ev4 c U (by rw[j7 F];exact M) J;exact⟨⟨T,L,P.trans O⟩,I⟩
def ac6{c:Type}(ks:List Str)(vs:List c)(h:ks.length=vs.length):((ks.zip vs).map λkv=>((Bi kv.1:Key),kv.2)).map (·.1)=ks.map Bi/\((ks.zip vs).map λkv=>((Bi kv.1:Key),kv.2)).map (·.2)=vs:=by
 induction ks generalizing vs with
 |nil=>
  cases vs with
  |nil=>exact⟨rfl,rfl⟩
  |cons _ _=>simp at h
 |cons k ks d=>
  cases vs with
  |nil=>simp at h
  |cons v vs=>
   obtain⟨f,e⟩:=d vs (by simpa using h);simp only[DR,AZ];exact⟨by rw[f],by rw[e]⟩
def cg9{t:DA}{dp:Pos}(F:DPs X dp keys values ks t)(f:keys.all (·.isSome)=AC)(D:keys.length=values.length)(L:keys≠[])(E:keys.length=ks.length)(l:keys.length<=15)(y:ks.Nodup):
  PE X (.Dict keys values dp) (up X.K λenv h Q=>t env h λds st1=>∀p,st1 p=AD->Q (.ref p) (c9 st1 p (.dct ((ks.zip ds).map λkv=>(.inr kv.1,kv.2))))):=by
 obtain⟨u,J,I⟩:=F;refine PE.imp (bg3 J f D L l) λσ H Q q=>?_;obtain⟨env,h,M,G,n,A,B⟩:=q;intro p i;have w:h p=AD:=n.free i;refine I σ _ _ ⟨env,h,_,G.mono (TK.new i),n.new i,A,λvs ds H2 st2 ev2 is2 hl2 rs2 q2=>?_⟩;obtain⟨m,j⟩:=ev2.get p8 w (λ_=>nofun);have a:ks.length=vs.length:=by rw[<-is2.len,hl2]
 have e:ks.length=ds.length:=by rw[hl2]
 refine⟨m,(ks.zip vs).map λkv=>((Bi kv.1:Key),kv.2),by rw[BN];rfl,?_,?_⟩
 ·rw[AT,IG,<-is2.len,hl2];lia
 have C:M0 [] ((ks.zip vs).map λkv=>((Bi kv.1:Key),kv.2))=(ks.zip vs).map λkv=>((Bi kv.1:Key),kv.2):=by
  rw[ap7 _ [] (λ_ _=>rfl)]
  ·rfl
  ·rw[(ac6 ks vs a).1];exact Dv _ (λa b hab z=>hab (GC z)) y
 rw[C];have d:TK X.K H2 (upd H2 p (.dK ((ks.zip vs).map λkv=>((Bi kv.1:Key),kv.2)))):=TK.putD m;refine B _ (.ref p) _ (c9 st2 p (.dct ((ks.zip ds).map λkv=>(.inr kv.1,kv.2)))) (λc o hc hs=>?_) (.ref p) (rs2.putAny (ob:=.dct ((ks.zip ds).map λkv=>(.inr kv.1,kv.2))) d ⟨_,p8,⟨?_,?_⟩⟩ (by rw[m];exact λ_ z=>by cases z)) (q2 p j)
 ·have k:c≠p:=z5 hc i;obtain⟨⟨x,s,v⟩,r⟩:=ev2 c o (by rw[j7 k];exact hc) hs;exact⟨⟨x,by rw[j7 k];exact s,v⟩,by rw[G1 k];exact r⟩
 ·rw[(ac6 ks ds e).1,(ac6 ks vs a).1]
 ·rw[(ac6 ks ds e).2,(ac6 ks vs a).2];exact is2.mono d
@[reducible]noncomputable def M7(h:BI)(a:AH)(T:List (Str×AG)):Prop:=KTD.TabOf (λ(d v:AG)=>v=d) h a T
def M7.typeIs{a}{T}(t:M7 s.heap a T):s.TypeIs (.ref a) "dict":=let⟨_,o,_,_,b,c,_⟩:=t;⟨o,b,c.1⟩
def M7.get{prog:Al}{w:Ay}{A:BW}{E:AG->AJ->Prop}{s:AJ}{a:AH}{T:List (Str×AG)}{k:Str}{tk:Tok}{Q:Option AG->AJ->Prop}(t:M7 s.heap a T)
  (h:Q (CK k T) {s with toks:=s.toks+1}):AR (model prog w) A (KN a (.str k tk)) Q E s:=by
 obtain⟨_,o,⟨l⟩,n,c,m,f,b⟩:=t;refine AB (Ew (AB (KTD.kt_dictFind_strs (s:={s with toks:=s.toks+1}) c f (by simpa using b.exact) ?_)));have e:CK k T=(l.find? λe=>e.key.isStr k).map (·.val):=by
  cases hat:CK k T with
  |some d=>obtain⟨v,g,rfl⟩:=b.find_some hat;exact g.symm
  |none=>exact(b.find_none hat).symm
 have j:findBy (λk v=>v.isStr k) (⟨l⟩:Array Dy) k=CK k T:=by rw[e];simp[findBy]
 rw[<-j,findBy_of_findIdx?]at h;cases hi:(⟨l⟩:Array Dy).findIdx? λe=>e.key.isStr k with
 |none=>rw[hi]at h;exact AL h
 |some i=>rw[hi]at h;exact AB (wpAny_dictEntries (s:={s with toks:=s.toks+1}) c f (AL h))
def bt0{prog:Al}{w:Ay}{A:BW}{E:AG->AJ->Prop}{a:AH}{T:List (Str×AG)}{k:Str}{tk:Tok}{u:AG}{Q:AG->AJ->Prop}(H:M7 s.heap a T)(b:CK k T=AA u)
  (h:Q u {s with toks:=s.toks+1}):AR (model prog w) A (Em (.ref a) (.str k tk)) Q E s:=by
 unfold Em
 try with_reducible refine CO ?_
 refine AB (KD H.typeIs ∅ ?_);refine AB (BO (name:=AV "__getitem__") H.typeIs KO
  (BM KO H.typeIs entry_dict_getitem ?_ (args_dict_getitem _ _)))
 show AR _ _ (KN a (.str k tk)>>=_) _ _ s;refine AB (H.get ?_);rw[b];exact AL ⟨u,rfl,AL h⟩
def M7.dget{prog:Al}{w:Ay}{A:BW}{E:AG->AJ->Prop}{a:AH}{T:List (Str×AG)}{k:Str}{tk:Tok}{r:AG}{Q:AG->AJ->Prop}(t:M7 s.heap a T)
  (h:Q ((CK k T).getD r) {s with toks:=s.toks+1}):AR (model prog w) A (call (.builtin "dict.get") [.ref a,.str k tk,r]) Q E s:=by
 refine BM PySem.F.slot_dict_get t.typeIs PySem.F.entry_dict_get ?_ (PySem.F.args_dict_get_3 _ _ _);show AR _ _ (KN a (.str k tk)>>=_) _ _ s;refine AB (t.get ?_);cases hf:CK k T with
 |some v=>rw[hf]at h;exact AL ⟨v,rfl,h⟩
 |none=>
  rw[hf]at h;show AR _ _ (Kv a (.str k tk)>>=_) _ _ _;exact AB (wpAny_missed_other t.1 (AL ⟨r,rfl,h⟩))
structure GTab(P:Al)(w:Ay)(K:AQ)(mg:Str->Option AG)(g:Str)(kvs:List (Str×D)):Prop where
 ex:∃(a:AH)(T:List (Str×AG)),mg g=AA (.ref a)/\(∀h:BI,K.In h->M7 h a T)/\(∀x d,p6 kvs x=AA d->∃u v,CK x T=AA u/\i8 v u/\∀H,IsD K H d v)/\∀x,p6 kvs x=AD->CK x T=AD
def cc0(T:kvs≠[]->GTab X.prog X.w X.K X.mg g kvs)(N:Gl X g)(O:PE X b (up X.K tb))(J:∀l u s p,b≠.Slice l u s p)(n:(g=="__debug__")=AF):
  PE X (.Subscript (.Name g p) b pos) (up X.K λenv f Q=>kvs≠[]/\tb env f λx st1=>∃w d,x=.str w/\p6 kvs w=AA d/\Q d st1):=by
 intro h s o H Q I q;obtain⟨env,f,z,S,R,⟨m,i⟩,k⟩:=q;obtain⟨t,W,L,P,M,_⟩:=(T m).ex;have q:up X.K (λenv f Q=>tb env f λx st1=>∃w d,x=.str w/\p6 kvs w=AA d/\Q d st1) o H Q:=⟨env,f,z,S,R,i,k⟩;refine bd1 PySem.F.slot_dict_getitem.lookup (ap1 J) (W0 I N L ?_ n);refine thn (O h s o H (λv H1=>∃(w:Str)(d:D),v=.str w/\p6 kvs w=AA d/\∀e,IsD X.K H1 d e->Q e H1) I (up1 q λv d H' st' z is rs i k=>?_)) λiv s2 z47=>?_
 ·obtain⟨w,d,rfl,j,i⟩:=i;exact⟨w,d,is.str_inv,j,λv' a=>k.here a rs i⟩
 ·obtain⟨y,B,A,C,w,d,V,j,G⟩:=z47;subst V;obtain⟨Y,rfl⟩:=C;obtain⟨u,e,U,E,a⟩:=M w d j;have r:=P s2.heap A.kIn;exact⟨r.typeIs,bt0 r U ⟨e,B,A.tok _,E,G e (a B)⟩⟩
def ca7{j:Pos}(T:kvs≠[]->GTab X.prog X.w X.K X.mg g kvs)(hg:Gl X g)(hb:PE X b (up X.K tb))(C:PE X c (up X.K tc))(V:∀e p,b≠.Starred e p)(n:∀e p,c≠.Starred e p)(k:(j.endLine==pos.line)=AC)(B:(g==("__debug__":Str))=AF):
  PE X (.Call (.Attribute (.Name g p) "get" j) [b,c] [] pos) (up X.K λenv l Q=>kvs≠[]/\tb env l λx f=>tc env f λy a=>∃w,x=.str w/\Q ((p6 kvs w).getD y) a):=by
 intro i s D H Q I q;obtain⟨env,l,O,M,L,⟨A,U⟩,E⟩:=q;obtain⟨t,P,Y,J,Z,r⟩:=(T A).ex;have N:CH pos (An [b,c] X.env)=[(AF,eval b X.env),(AF,eval c X.env)]:=by rw[o0 V,o0 n];rfl
 refine KJ (G2 (λ_ _ _=>nofun)) (by rw[N];rfl) k PySem.F.plainAttrs_dict PySem.F.slot_dict_get PySem.F.type_dict_get (W0 I hg Y ?_ B);have G:M7 s.heap t P:=J s.heap I.kIn;refine⟨G.typeIs,λb e=>?_,?_⟩
 ·injection e with e
  subst e;obtain⟨_,o,_,_,W,C,_⟩:=G;exact⟨o,W,C.2.1⟩
 ·rw[N];refine CD rfl (Cv (Cg (thn (hb i s D H (λv H1=>∃d f,Ev l H f H1/\IsD X.K H1 d v/\RelS X.K f H1/\tc env f λy a=>∃w,d=.str w/\O ((p6 kvs w).getD y) a) I ⟨env,l,_,M,L,U,λv d H' st' ev is rs q=>⟨d,st',ev,is,rs,q⟩⟩) λiv s2⟨y,H2,I2,ry,d,f,ev1,is1,rs1,q1⟩=>
   Cg (thn (C i s2 D H2 (λv H3=>∃e a,Ev f H2 a H3/\IsD X.K H3 e v/\RelS X.K a H3/\∃w,d=.str w/\O ((p6 kvs w).getD e) a) I2 ⟨env,f,_,M.mono (ev1.tk L),rs1,q1,λv d H' st' ev is rs q=>⟨d,st',ev,is,rs,q⟩⟩) λfv s3⟨z,H3,I3,rz,e,a,ev2,is2,rs2,w,ew,q2⟩=>DQ ?_))))
  subst ew;rw[is1.str_inv]at ry;obtain⟨tt,rfl⟩:=ry;refine(J s3.heap I3.kIn).dget ?_;cases lk:p6 kvs w with
  |some dv=>
   obtain⟨u,R,h1,S,m⟩:=Z w dv lk;rw[lk]at q2;rw[h1];exact⟨R,H3,I3.tok _,S,(E.after (ev1.trans ev2)).here (m H3) rs2 q2⟩
  |none=>
   rw[lk]at q2;rw[r w lk];exact⟨z,H3,I3.tok _,rz,(E.after (ev1.trans ev2)).here is2 rs2 q2⟩
abbrev X5:List Int->List AG->Bool
 |[],us=>us.isEmpty
 |i::ns,us=>match us with
  |u::us=>GW i u&&X5 ns us
  |[]=>AF
theorem X5.is:∀{ns:List Int}{us:List AG},X5 ns us=AC->i6 (ns.map V.int) us
 |[],[],_=>.nil
 |i::ns,u::us,h=>by
  have h:=IL.mp h;obtain⟨t,e⟩:=Fn h.1;exact .cons ⟨t,e⟩ (X5.is h.2)
abbrev ax4(ns:List Int):Option Obj->Bool
 |some o=>(match o.data with|.seq its _=>(o.cls==.type "tuple")&&o.dict.isNone&&AE (its.size<=1000)&&X5 ns its.toList|_=>AF)
 |none=>AF
abbrev R0(K:AQ):D->AG->Bool
 |.int j,u=>GW j u
 |.fn f,.ref a=>BJ K AO f==AA (AA (.ref a))
 |.ktup ns,.ref a=>ax4 ns (K.lookup a)
 |_,_=>AF
theorem R0.is{K:AQ}{d:D}{u:AG}(h:R0 K d u=AC):∃v,i8 v u/\∀H,IsD K H d v:=by
 cases d<;>first|exact⟨.int _,Fn h,λH=>.int _⟩|(cases u<;>first|exact nomatch (show AF=AC from h)|skip)
 ·exact⟨.ref _,rfl,λH=>.fn (Ki h)⟩
 ·rename_i f a;have h:ax4 f (K.lookup a)=AC:=h;cases hk:K.lookup a with
  |none=>rw[hk]at h;cases h
  |some o=>
   obtain⟨c,d,x,g⟩:=o;rw[hk]at h;cases x<;>first|exact nomatch (show AF=AC from h)|skip
   rename_i e n;simp only[ax4,BL,beq_iff_eq,decide_eq_true_eq]at h;exact⟨.ref a,rfl,λH=>.ktup (.inr ⟨_,e,n,hk,h.1.1.1,by simpa using h.1.1.2,rfl,Bd h.1.2 ∅,X5.is h.2⟩)⟩
abbrev av5(K:AQ)(e:Dy)(p:Str×D):Bool:=(match e.key with|.str x _=>x==p.1|_=>AF)&&R0 K p.2 e.val
abbrev X4(K:AQ):List Dy->List (Str×D)->Bool
 |[],[]=>AC
 |e::es,p::ps=>av5 K e p&&X4 K es ps
 |_,_=>AF
abbrev ac8(K:AQ)(a:AH)(kvs:List (Str×D)):Bool:=match K.lookup a with
 |some ⟨c,dd,.dict es _,sl⟩=>(c==.type "dict")&&dd.isNone&&sl.isEmpty&&X4 K es.toList kvs&&!(a==Cc)
 |_=>AF
abbrev X7:List Dy->List (Str×D)->List (Str×AG)
 |e::es,(x,_)::r=>(x,e.val)::X7 es r
 |_,_=>[]
theorem bg8{K}:∀(c)b,X4 K c b=AC->KTD.Rows (λd v=>v=d) c (X7 c b)
 |[],[],_=>.nil
 |[],_::_,a=>by cases a
 |_::_,[],a=>by cases a
 |e::c,(x,d)::g,a=>by
  simp only[X4,av5,BL]at a;obtain⟨⟨f,_⟩,h⟩:=a
  split at f
  ·rename_i y t i;have:=by simpa using f
   subst this;exact .cons i rfl (bg8 c g h)
  ·cases f
theorem ar0{K:AQ}:∀(a:List (Str×D))(c:List Dy),X4 K c a=AC->∀x,(∀d,p6 a x=AA d->∃u v,CK x (X7 c a)=AA u/\i8 v u/\∀H,IsD K H d v)/\(p6 a x=AD->CK x (X7 c a)=AD)
 |[],[],_,x=>⟨λd h=>(nomatch h),λ_=>rfl⟩
 |[],_::_,b,x=>by cases b
 |(y,e)::r,[],b,x=>by cases b
 |(y,e)::r,m::c,b,x=>by
  simp only[X4,av5,BL]at b;obtain⟨⟨_,l⟩,k⟩:=b;have j:=ar0 r c k x;simp only[p6,X7,CK]
  by_cases f:y=x
  ·rw[if_pos f,if_pos (by simp[f])];obtain⟨v,g,i⟩:=R0.is l;exact⟨λd h=>by cases h;exact⟨_,v,rfl,g,i⟩,λh=>by cases h⟩
  ·rw[if_neg f,if_neg (by simp[BE f])];exact j
def as1{P}{w}{K}{mg}{h}{a}(o:K.In h)(G:h.Ns AO mg)(n:BJ K AO g=AA (AA (.ref a)))(b:ac8 K a kvs=AC):GTab P w K mg g kvs:=by
 unfold ac8 at b
 split at b
 ·rename_i c q e i p f;simp only[BL,beq_iff_eq,Gx]at b;obtain⟨⟨⟨⟨m,l⟩,k⟩,d⟩,j⟩:=b;refine⟨a,X7 e.toList kvs,IX o G n,λh' hK'=>⟨j,_,e,i,hK' a _ f,⟨m,by simpa using l,by simpa using k⟩,rfl,bg8 _ _ d⟩,λx=>(ar0 kvs _ d x).1,λx=>(ar0 kvs _ d x).2⟩
 ·cases b
end
end Ek
namespace Ek
open PySem PySem.Spec PyProof.Rows L2
variable [Tbs]
variable{q:AH}{ds:List D}{H1:Hp}
section
variable {X:Cx} {a b c:AS} {ta tb tc:DT} {pos p:Pos}
structure ItOk(K:AQ)(H1:Hp)(J:L2.It)(items:List D)(chk:Sto->Prop):Prop where
 go:∀(i:Nat)st H,TK K H1 H->RelS K st H->chk st->i<items.length->J.go i H
 yld:∀(i:Nat)st H x H',TK K H1 H->RelS K st H->chk st->i<items.length->J.yld i H x H'->∃d,items[i]?=AA d/\IsD K H' d x/\Ev st H st H'/\RelS K st H'
 stop:∀st H,TK K H1 H->RelS K st H->chk st->J.stop items.length H
abbrev upI(K:AQ)(t:j8->Sto->ItK->Prop):TI:=λσ H R=>∃env st k,RelE K H env σ/\RelS K st H/\t env st k/\∀items chk st' H' J,Ev st H st' H'->RelS K st' H'->ItOk K H' J items chk->k items chk st'->R J H'
def _root_.L2.PI.imp{X}{tg x}{t t'}(h:PI X tg x t)(i:∀a H Q,t' a H Q->t a H Q):PI X tg x t':=λpins s a H Q I q=>h pins s a H Q I (i a H Q q)
variable {K:AQ}
def co8{vs:List V}(a:SqT K H1 q vs)(r:IsDs K H1 ds vs):ItOk K H1 (Itt K q) ds (λ_=>True) where
 go:=λi st H tk rs _ hi=>by
  obtain⟨v,c,_⟩:=r.get (AM hi);exact⟨vs,v,tk.1.1 _ _ a,c⟩
 yld:=λi st H x H' tk rs _ hi y=>by
  obtain⟨rfl,y⟩:=y;obtain⟨d,e,b⟩:=r.get' (y vs (tk.1.1 _ _ a));exact⟨d,e,b.mono tk,Ev.refl,rs⟩
 stop:=λst H tk rs _=>⟨vs,tk.1.1 _ _ a,r.len▸Ab _⟩
def cr6:ItOk K H1 (Itl K q) ds (λst=>rdS st q ds) where
 go:=λi st H tk rs hc hi=>by
  obtain⟨a,b,r⟩:=rs.rd hc;obtain⟨v,e,_⟩:=r.get (AM hi);exact⟨a,v,b,e⟩
 yld:=λi st H x H' tk rs hc hi y=>by
  obtain⟨rfl,y⟩:=y;obtain⟨a,b,r⟩:=rs.rd hc;obtain⟨d,f,c⟩:=r.get' (y a b);exact⟨d,f,c,Ev.refl,rs⟩
 stop:=λst H tk rs hc=>by
  obtain⟨a,b,r⟩:=rs.rd hc;exact⟨a,b,by rw[r.len];exact Ab _⟩
def bh8{lo}{n}:ItOk K H1 (Itr lo n) (z7 lo n) (λ_=>True) where
 go:=λi st H tk rs _ hi=>by show i<n;simpa[z7]using hi
 yld:=λi st H x H' tk rs _ hi y=>by
  obtain⟨rfl,rfl⟩:=y;have a:=by simpa[z7]using hi
  exact⟨.int (lo+i),by simp[z7,a],.int _,Ev.refl,rs⟩
 stop:=λst H tk rs _=>by show n<=(z7 lo n).length;simp[z7]
theorem aq4:∀a(k),(B9 k a).length=a.length
 |[],_=>rfl
 |d::a,k=>by simp[B9,aq4 a (k+1)]
theorem a87:∀a(k i:Nat)(d:D),a[i]?=AA d->(B9 k a)[i]?=AA (.tup [.int ((k+i:Nat)),d])
 |[],k,i,d,h=>by simp at h
 |e::a,k,0,d,h=>by simp at h;subst h;rfl
 |e::a,k,i+1,d,h=>by
  have:=a87 a (k+1) i d (by simpa using h);have e:k+(i+1)=k+1+i:=by lia
  rw[e];simpa[B9]using this
def b98{sq}{chk}(h:∀st H,TK K H1 H->RelS K st H->chk st->∃a,sq H a/\IsDs K H ds a):ItOk K H1 (Ite K sq) (B9 0 ds) chk where
 go:=λi st H tk rs hc hi=>by
  obtain⟨a,c,r⟩:=h st H tk rs hc;rw[aq4]at hi;obtain⟨v,j,_⟩:=r.get (AM hi);exact⟨a,v,c,j⟩
 yld:=λi st H x H' tk rs hc hi y=>by
  obtain⟨t,v,f,rfl,rfl,y⟩:=y;obtain⟨a,c,r⟩:=h st H tk rs hc;obtain⟨d,k,g⟩:=r.get' (y a c);refine⟨_,a87 ds 0 i d k,IsD.mk (SqX.of p8) (.cons ?_ (.cons (g.mono (TK.new f)) .nil)),Ev.new f,rs.new f⟩;have e:0+i=i:=by simp
  rw[e];exact .int _
 stop:=λst H tk rs hc=>by
  obtain⟨a,c,r⟩:=h st H tk rs hc;exact⟨a,c,by rw[aq4,r.len]⟩
def cp5:ItOk K H1 (Itv K q ds.length) ds.reverse λst=>rdS st q ds where
 go:=λi st H tk rs hc hi=>by
  obtain⟨a,b,r⟩:=rs.rd hc;exact⟨⟨a,b,r.len.symm⟩,by simp_all⟩
 yld:=λi st H x H' tk rs hc hi y=>by
  obtain⟨rfl,y⟩:=y;obtain⟨a,b,r⟩:=rs.rd hc;have c:i<ds.length:=by simp_all
  obtain⟨d,f,e⟩:=r.get' (y a b);exact⟨d,FB c▸f,e,Ev.refl,rs⟩
 stop:=λst H tk rs hc=>by
  obtain⟨a,b,r⟩:=rs.rd hc;exact⟨⟨a,b,r.len.symm⟩,∎⟩
variable {tg:AS}
def cm7(G:PE X a (up X.K ta)):PI X tg a (upI X.K λenv n k=>ta env n λd b=>(∃c,d=.tup c/\k c (λ_=>True) b)\/∃a c,d=.ref a/\rdS b a c/\k c (λst'=>rdS st' a c) b):=by
 intro l s A H R I q;obtain⟨env,n,y,L,J,E,z⟩:=q;refine thn (G l s A H (λv g=>∃d b,Ev n H b g/\IsD X.K g d v/\RelS X.K b g/\((∃c,d=.tup c/\y c (λ_=>True) b)\/∃a c,d=.ref a/\rdS b a c/\y c (λst'=>rdS st' a c) b)) I ⟨env,n,_,L,J,E,λv d g b t p j i=>⟨d,b,t,p,j,i⟩⟩) λu s1 z48=>?_
 obtain⟨v,g,h,u,d,b,t,p,j,i⟩:=z48;rcases i with⟨c,rfl,i⟩|⟨q,c,rfl,F,i⟩
 ·obtain⟨q,B,rfl,f,r⟩:=p.tup_inv;cases u;obtain⟨x,C,w,D⟩:=h.tuple f;refine Jt (w) ?_;refine⟨s1.heap.objs.size,[s1.heap.objs.size],_,_,g,rfl,h.kept λb o=>AN _,bv0 q _,⟨_,Ai _ rfl,rfl,rfl⟩,λb hb=>?_,z c _ b g _ t j (co8 f r) i⟩;have e:=by simpa using hb
  subst e;exact h.fpOk (Ab _) (h.hok.fresh (Ab _))
 ·rw[p.ref_inv]at u;cases u;obtain⟨B,f,r⟩:=j.rd F;obtain⟨x,C,w,D⟩:=h.list f;refine KP w.isList ?_;refine⟨s1.heap.objs.size,[s1.heap.objs.size],_,_,g,rfl,h.kept λb o=>AN _,b10 q _,⟨_,Ai _ rfl,rfl,rfl⟩,λb hb=>?_,z c _ b g _ t j cr6 i⟩;have e:=by simpa using hb
  subst e;exact h.fpOk (Ab _) (h.hok.fresh (Ab _))
def cm8(s:Gl X "range")(r:X.mg "range"=AD)(t:PE X a (up X.K ta))(g:∀e p,a≠.Starred e p):PI X tg (.Call (.Name "range" p) [a] [] pos) (upI X.K λenv c k=>ta env c λd st1=>∃j:Int,d=.int j/\(-(2^62)<=j/\j<2^62)/\k (z7 0 j.toNat) (λ_=>True) st1):=
 PI.imp (bw6 s r (L9 t g) (by rw[o0 g];rfl)) λσ H R q=>by
  obtain⟨env,c,i,w,u,n,o⟩:=q;refine⟨env,c,(λds st1=>match ds with|[d]=>∃j:Int,d=.int j/\(-(2^62)<=j/\j<2^62)/\i (z7 0 j.toNat) (λ_=>True) st1|_=>False),w,u,n,λvs ds H' st' ev is hl rs f=>?_⟩
  match ds,hl with
  |[d],_=>
   obtain⟨v,x,rfl,m,l⟩:=is.inv_cons;rw[l.inv_nil];obtain⟨j,rfl,h,f⟩:=f;exact⟨j,by rw[m.int_inv],h.1,h.2,o _ _ st' H' _ ev rs bh8 f⟩
def cj2(A:Gl X "range")(y:X.mg "range"=AD)(C:PE X a (up X.K ta))(B:PE X b (up X.K tb))(l:∀e p,a≠.Starred e p)(c:∀e p,b≠.Starred e p):PI X tg (.Call (.Name "range" p) [a,b] [] pos) (upI X.K λenv g k=>ta env g λd st1=>tb env st1 λe st2=>∃i j:Int,d=.int i/\e=.int j/\(-(2^62)<=i/\i<2^62/\-(2^62)<=j/\j<2^62)/\k (z7 i (j-i).toNat) (λ_=>True) st2):=
 PI.imp (bx3 A y (ah7 C B l c) (by rw[o0 l,o0 c];rfl) (by rw[o0 c];rfl)) λσ H R q=>by
  obtain⟨env,g,n,E,D,u,x⟩:=q;refine⟨env,g,(λds st1=>match ds with|[d,e]=>∃i j:Int,d=.int i/\e=.int j/\(-(2^62)<=i/\i<2^62/\-(2^62)<=j/\j<2^62)/\n (z7 i (j-i).toNat) (λ_=>True) st1|_=>False),E,D,u,λvs ds H' st' ev is hl rs h=>?_⟩
  match ds,hl with
  |[d,e],_=>
   obtain⟨v,F,rfl,t,s⟩:=is.inv_cons;obtain⟨w,m,rfl,r,o⟩:=s.inv_cons;rw[o.inv_nil];obtain⟨i,j,rfl,rfl,z,h⟩:=h;exact⟨i,j,by rw[t.int_inv,r.int_inv],z,x _ _ st' H' _ ev rs bh8 h⟩
def cw5(A:Gl X "reversed")(z:X.mg "reversed"=AD)(B:PE X a (up X.K ta))(n:∀e p,a≠.Starred e p):PI X tg (.Call (.Name "reversed" p) [a] [] pos) (upI X.K λenv j k=>ta env j λd b=>∃a ds,d=.ref a/\rdS b a ds/\k ds.reverse (λst'=>rdS st' a ds) b):=
 PI.imp (ci4 A z (L9 B n) (by rw[o0 n];rfl)) λσ H R q=>by
  obtain⟨env,j,s,D,C,w,y⟩:=q;refine⟨env,j,(λds b=>match ds with|[d]=>∃a ds,d=.ref a/\rdS b a ds/\s ds.reverse (λst'=>rdS st' a ds) b|_=>False),D,C,w,λvs ds H' st' ev is hl rs l=>?_⟩
  match ds,hl with
  |[d],_=>
   obtain⟨v,E,rfl,u,t⟩:=is.inv_cons;rw[t.inv_nil];obtain⟨q,ds,rfl,x,l⟩:=l;obtain⟨o,m,r⟩:=rs.rd x;exact⟨q,o,by rw[u.ref_inv],m,by rw[<-r.len];exact y _ _ st' H' _ ev rs cp5 l⟩
end
end Ek
namespace PySem
open PyProof.Rows
namespace F
def az0:Manifest.owners.lookup (String.ofList ['d','e','s','r','e','v','e','r'].reverse)=AA Manifest.sig_reversed:=by kernel_rfl
def ek_slot_rev_next:Slot "reversed" "__next__" "reversed.__next__":=
 .of (owner:="reversed") (n:="__next__") (by kernel_rfl) (by decide+kernel) (by decide+kernel) (by decide+kernel)
  (by first|exact .inl (by decide+kernel)|exact .inr (by decide+kernel)) (by kernel_rfl)
def bq7:Slot "reversed" "__init__" "object.__init__":=
 .of (owner:="object") (n:="__init__") (by kernel_rfl) (by decide+kernel) (by decide+kernel) (by decide+kernel)
  (by first|exact .inl (by decide+kernel)|exact .inr (by decide+kernel)) (by kernel_rfl)
def ek_slot_rev_iter:Slot "reversed" "__iter__" "reversed.__iter__":=
 .of (owner:="reversed") (n:="__iter__") (by kernel_rfl) (by decide+kernel) (by decide+kernel) (by decide+kernel)
  (by first|exact .inl (by decide+kernel)|exact .inr (by decide+kernel)) (by kernel_rfl)
def ek_entry_rev_next:entryFor table "reversed.__next__"=AA DV.«reversed.__next__»:=entryFor_of_tree rfl
def ek_entry_rev_iter:entryFor table "reversed.__iter__"=AA DV.«dict_keyiterator.__iter__»:=
 entryFor_alias (id':="dict_keyiterator.__iter__") (by kernel_rfl) (by first|rfl|decide+kernel|(unfold String.splitOn;simp +decide [String.splitOnAux])) (by decide+kernel) (by kernel_rfl)
def ek_args_rev_next a:LR "reversed.__next__" ⟨[a],[]⟩:=by
 kernel_rfl
def ek_args_rev_iter a:LR "reversed.__iter__" ⟨[a],[]⟩:=by
 kernel_rfl
def ek_called_reversed:TypeCalled "reversed" "reversed.__new__" "object.__init__":=
 ⟨by decide+kernel,by decide+kernel,⟨_,_,mro_reversed⟩,made_reversed,by decide+kernel,by kernel_rfl,bq7⟩
def ek_tuple_no_rev:Ge (.type "tuple") "__reversed__"=pure AD:=by kernel_rfl
def ek_sub_tuple_dict:isSubtype (.type "tuple") (.type "dict")=pure AF:=rfl
end F
abbrev E4(l:AH)(i:Int):Obj:={cls:=.type "reversed",data:=.fields #[.ref l,Ch i]}
def bu1(l:AH)(items:Array AG)(b:(items.size:Int)<2^63):
  Meets (DV.«reversed.__new__» ⟨[.type "reversed",.ref l],[]⟩) (λ_ R s=>Gn s.heap l items/\∀c,R (.ok (.ret (.ref s.heap.objs.size))) {s with heap:=s.heap.push (E4 l ((items.size:Int)-1)),toks:=c}):=
 .of_wp λprog w A R s h=>by
  obtain⟨j,g,d,c,i⟩:=s;obtain⟨f,h⟩:=h;have e:=F.sub_reversed_self;have a:Shared.TypeIs ⟨j,g,d,c,i⟩ (.ref l) "tuple":=f.typeIs;have n:=F.ek_tuple_no_rev;have m:=F.ek_sub_tuple_dict;have k:=DY.lookup
  wp_walk using(Bm a F.ek_tuple_no_rev),(Dz a F.ek_sub_tuple_dict),(Bm a DY.lookup),(len_tuple f b)
  exact⟨_,rfl,h _⟩
variable{l:AH}
abbrev B0(h:BI)(a l:AH)(i:Int):Prop:=∃o,h.get? a=AA o/\o.cls=.type "reversed"/\o.data=.fields #[.ref l,Ch i]
section
variable {prog:Al} {w:Ay} {A:BW} {E:AG->AJ->Prop} {s:AJ}
def B0.typeIs{a}{i}(x:B0 s.heap a l i):s.TypeIs (.ref a) "reversed":=let⟨o,b,c,_⟩:=x;⟨o,b,c⟩
def B0.stay{h h':BI}{a:AH}{i:Int}(x:B0 h a l i)(e:∀o,h.get? a=AA o->h'.get? a=AA o):B0 h' a l i:=let⟨o,b,r⟩:=x;⟨o,e _ b,r⟩
def a84{items}{Q}(c:Gn s.heap l items)(a:(items.size:Int)<2^63)
  (h:∀tk,Q (.ref s.heap.objs.size) {s with heap:=s.heap.push (E4 l (items.size-1)),toks:=tk}):AR (model prog w) A (call (.type "reversed") [.ref l]) Q E s:=by
 exact Iz F.ek_called_reversed ∅ (F.typeCall_reversed_1 _) (F.newCall_reversed_1 _) (λobj=>JA obj _) F.entry_reversed_new (bu1 l items a) ⟨c,λtk=>⟨⟨_,Ai _ rfl,rfl⟩,h tk⟩⟩
def bq9{d:AH}{i:Nat}{items:Array AG}{x:AG}{Q:AG->AJ->Prop}(b:B0 s.heap d l (i:Int))(h:Gn s.heap l items)(g:items[i]?=AA x)(k:(items.size:Int)<2^63)
  (p:∀f m,B0 f d l ((i:Int)-1)->Bc d s.heap f->Q x {s with heap:=f,toks:=m}):AR (model prog w) A (Af (.ref d)) Q E s:=by
 obtain⟨o,e,n,c⟩:=id b;have q:i<items.size:=(Gy.mp g).1;unfold Af;refine AB (BO (name:=AV "__next__") b.typeIs F.ek_slot_rev_next
  (BM F.ek_slot_rev_next b.typeIs F.ek_entry_rev_next ?_ (F.ek_args_rev_next _)))
 refine AB (Db (a:=(BC d,[])) rfl ?_)
 try dsimp only
 refine AB (Aw e c (x:=.ref l) rfl ?_);refine AB (Aw e c (x:=Ch (i:Int)) rfl ?_);show AR _ _ (if(i:Int)<0 then _ else _) _ _ s;try dsimp only
 refine AB (Bm h.typeIs DY.lookup ?_);try dsimp only
 refine AB (HZ ?_);refine AB (ED (IS (j:=i) (x:=x) (s:={s with toks:=s.toks+1}) h ⋯ ⋯ ?_ g ?_))
 ·unfold HN;simp;lia
 try dsimp only
 refine AB (Aw e c (x:=Ch (i:Int)) rfl ?_);refine AB (Cj e c ∎ ?_);refine AL ⟨x,rfl,AL (p _ _ ?_ (Bl ..))⟩;exact⟨_,CP _ e (Co (Bb c _)),(GO ..).trans n,by
  rw[Bb c];simp⟩
end
end PySem
namespace PySem
open PyProof.Rows
section
variable {prog:Al} {w:Ay} {A:BW} {E:AG->AJ->Prop} {s:AJ}
def aa3{it l}{i}{Q}(a:B0 s.heap it l i)(h:Q (.ref it) s):AR (model prog w) A (HJ (.ref it)) Q E s:=by
 refine KQ a.typeIs F.ek_slot_rev_iter (BM F.ek_slot_rev_iter a.typeIs F.ek_entry_rev_iter ?_ (F.ek_args_rev_iter _));exact AL ⟨_,rfl,"reversed",_,a.typeIs,F.ek_slot_rev_next.lookup,h⟩
def br2{d l:AH}{Q:AG->AJ->Prop}(h:A.handled=AD)(b:B0 s.heap d l (-1))
  (i:∀g e,FG d s.heap g->(∃o,g.get? e=AA o/\o.cls=.type "StopIteration")->E (.ref e) {s with heap:=g}):AR (model prog w) A (Af (.ref d)) Q E s:=by
 obtain⟨o,f,j,c⟩:=id b;unfold Af;refine AB (BO (name:=AV "__next__") b.typeIs F.ek_slot_rev_next
  (BM F.ek_slot_rev_next b.typeIs F.ek_entry_rev_next ?_ (F.ek_args_rev_next _)))
 refine AB (Db (a:=(BC d,[])) rfl ?_)
 try dsimp only
 refine AB (Aw f c (x:=.ref l) rfl ?_);refine AB (Aw f c (x:=Ch (-1)) rfl ?_);show AR _ _ (if(-1:Int)<0 then _ else _) _ _ s;rw[if_pos ∅];refine AB (Eb ?_);refine AB (AB (Cj f c ∎ ?_));refine Cj (CP _ f (Co (Bb c _))) (Bb c _) ∎ ?_;refine AB ?_;refine AB ?_;simp only[Iw,LN];refine AB (m:=Dq _ _) (Db (a:=Bz) (by first|rfl|(simp only[Dq];rfl)) ?_);refine Ba ?_ (by size_fits);simp only[LO];refine AB (IU ?_)
 first|rw[show A.in1.handled=AD from h]|rw[h]
 refine AB (AL (JR ?_));exact i _ _ ((((Bl ..).extBut.trans (Bl ..).extBut).push _).push _) ⟨_,Ai _ rfl,rfl⟩
end
def Draws.revT{prog}{w}{A}(k:A.handled=AD)(b l:AH)(f:l≠b)(items:Array AG)(c:(items.size:Int)<2^63):
  Draws prog w A b [b,l] items.size (λi v=>i<items.size/\items[items.size-1-i]?=AA v) (λi h=>B0 h b l ((items.size:Int)-1-(i:Int))/\Gn h l items) where
 live:=λ_ _ st=>let⟨o,d,_⟩:=st.1;⟨o,d⟩
 frame:=λ_ _ _ st hk=>⟨st.1.stay λo e=>hk b ∎ o e,let⟨o,d,r⟩:=st.2;⟨o,hk l ∎ o d,r⟩⟩
 item:=λi s Q E hi st hQ=>by
  have e:(items.size:Int)-1-(i:Int)=((items.size-1-i:Nat):Int):=by lia
  have g:items.size-1-i<items.size:=by lia
  have j:items[items.size-1-i]?=AA items[items.size-1-i]:=by simp[g]
  have a:=st.1;rw[e]at a;refine bq9 a st.2 j c λh' tk hit' hs'=>?_;refine hQ _ h' tk ⟨hi,j⟩ ⟨?_,st.2.extBut hs'.extBut f⟩ hs';have m:((items.size-1-i:Nat):Int)-1=(items.size:Int)-1-((i+1:Nat):Int):=by lia
  rw[m]at hit';exact hit'
 done:=λs Q E st hE=>by
  have a:=st.1;have e:(items.size:Int)-1-(items.size:Int)=-1:=by lia
  rw[e]at a;exact br2 k a hE
open AutoSeq1 (wpAny_loadPart') in
def bq5(it l:AH)(j:Int):
  Meets (DV.«enumerate.__new__» ⟨[.type "enumerate",.ref it],[]⟩) (λ_ R s=>s.heap.get? it=AA (E4 l j) /\
   R (.ok (.ret (.ref s.heap.objs.size))) {s with heap:=s.heap.push {cls:=.type "enumerate",data:=.fields #[.none,.bool AF,.ref it,Ch 0,.none,.none]}}):=
 .of_wp λprog w A R s h=>by
  obtain⟨hp,g,d,tk,os⟩:=s;obtain⟨hl,h⟩:=h;have hsub:=sub_enumerate;have hL:B0 (GP ⟨hp,g,d,tk,os⟩) it l j:=⟨_,hl,rfl,rfl⟩
  wp_walk using FT hl
  refine wpAny_stack_any λst=>AL ?_
  split
  ·rename_i c _ _ _ _ _;cases(c==De "enumerate")
   ·wp_walk using FT hl,aa3 hL
    exact⟨_,rfl,h⟩
   ·wp_walk using FT hl,aa3 hL
    exact⟨_,rfl,h⟩
  ·wp_walk using FT hl,aa3 hL
   exact⟨_,rfl,h⟩
section
variable {prog:Al} {w:Ay} {A:BW} {E:AG->AJ->Prop} {s:AJ}
def bu2{a l:AH}{j:Int}{Q:AG->AJ->Prop}(d:s.heap.get? a=AA (E4 l j))
  (h:∀c,LP c s.heap.objs.size a 0 .none->(∀b o,s.heap.get? b=AA o->c.get? b=AA o)->Q (.ref s.heap.objs.size) {s with heap:=c}) :
  AR (model prog w) A (call (.type "enumerate") [.ref a]) Q E s:=by
 refine Iz F.called_enumerate ∅ (F.typeCall_enumerate_1 _) (F.newCall_enumerate_1 _) (λobj=>JA obj _) F.entry_enumerate_new (bq5 a l j) ⟨d,?_⟩;exact⟨⟨_,Ai _ rfl,rfl⟩,h _ (Ai _ rfl) λb o x=>AN _ x⟩
end
end PySem
namespace L2
open PySem PySem.Spec PyProof.Rows
section
variable {X:Cx}
abbrev SqR(K:AQ)(l:AH)(n:Nat):Hp->List V->Prop:=λH ys=>∃zs,SqT K H l zs/\zs.length=n/\ys=zs.reverse
def b54{u:List AS}{k0:Nat}{tp:Pos}{d:List (AH×Obj)}{k:St}{y:Hp}{a:AJ}{R:It->Hp->Prop}{l:AH}{e:List V}{E:AG->AJ->Prop}{tk:Nat}(J:Inv X d k y a)(m:SqT X.K y l e)(q:R (Ite X.K (SqR X.K l e.length)) y):
  AR (model X.prog X.w) X.A (call (.type "enumerate") [.ref a.heap.objs.size]) (λv s=>AR (model X.prog X.w) X.A (HJ v) (PIE X d k (.Tuple u k0 tp) R) E s) E {a with heap:=a.heap.push (E4 l ((e.length:Int)-1)),toks:=tk}:=by
 have Q:(a.heap.push (E4 l ((e.length:Int)-1))).get? a.heap.objs.size=AA (E4 l ((e.length:Int)-1)):=Ai _ rfl;have sz:(a.heap.push (E4 l ((e.length:Int)-1))).objs.size=a.heap.objs.size+1:=Ci ..;refine bu2 (s:={a with heap:=a.heap.push (E4 l ((e.length:Int)-1)),toks:=tk}) Q λh' j kk'=>KM j ?_;have B:∀b o,a.heap.get? b=AA o->h'.get? b=AA o:=λb o x=>kk' b o (AN _ x);have g:B0 h' a.heap.objs.size l ((e.length:Int)-1):=⟨_,kk' _ _ Q,rfl,rfl⟩;have I2:Inv X d k y {a with heap:=h',toks:=tk}:=J.kept (t':=tk) B;have p:∀b∈[a.heap.objs.size+1,a.heap.objs.size],a.heap.objs.size<=b:=λb hb=>by
  rcases AK.mp hb with z|z
  ·rw[z];exact Ik _
  ·have U:b=a.heap.objs.size:=by simpa using z
   rw[U];exact Ab _
 rw[sz];refine⟨a.heap.objs.size+1,[a.heap.objs.size+1,a.heap.objs.size],_,_,y,rfl,I2,by5 (sq:=SqR X.K l e.length) (pit:=λi h=>B0 h a.heap.objs.size l ((e.length:Int)-1-(i:Int))) (bad:=λ_=>True) (JW _) ?_ ?_ ?_ ?_,⟨⟨_,by simpa using j⟩,by simpa using g⟩,λb hb=>J.fpOk (p b hb) (J.hok.fresh (p b hb)),q⟩
 ·rintro i h ⟨o,ho,P,hd⟩;exact⟨o,ho,λv z=>by rw[hd]at z;cases z⟩
 ·exact λi h h' st B=>st.stay B
 ·intro Y hP hw G P i d s k H W I f1 f2 g j m;obtain⟨zs,m,hn,rfl⟩:=m;rw[<-G]at m;obtain⟨c,N,O,hz⟩:=I.tuple m;have f:c.toArray.size=e.length:=by rw[Ad,<-N.length,hn]
  obtain⟨old,j⟩:=j;obtain⟨oi,C,F,hdi⟩:=id g;obtain⟨ol,n,t,nl,hdl⟩:=id O;have n1:l≠a.heap.objs.size:=bk0 n C (by rw[t,F];decide);have n2:a.heap.objs.size+1≠l:=bk0 j n (by rw[t];show De "enumerate"≠_;decide);have r:(c.toArray.size:Int)<2^63:=by
   rw[f];have hsl:sizeLine<2^62:=by decide+kernel
   lia
  refine⟨c.reverse,[a.heap.objs.size,l],(λi v=>i<c.toArray.size/\c.toArray[c.toArray.size-1-i]?=AA v),(λi h=>B0 h a.heap.objs.size l ((c.toArray.size:Int)-1-(i:Int))/\Gn h l c.toArray),N.reverse,by simpa using hz,?_,?_,⟨by rw[f];exact g,O⟩,λj v z=>?_,λj h z=>by rw[<-f];exact z.1⟩
  ·have D:=Draws.revT (prog:=X.prog) (w:=X.w) (A:=Y.A.in1) (by exact I.ok.hd P) a.heap.objs.size l n1 c.toArray r;simpa using D
  ·intro z
   rcases AK.mp z with z|z
   ·exact JW _ z
   ·exact n2 (by simpa using z)
  ·obtain⟨M,L⟩:=z;rw[FB M];simpa using L
 ·intro Y d s k H Z W G I h1 h2;obtain⟨M,T,b1,rfl⟩:=h1;obtain⟨L,S,b2,rfl⟩:=h2;rw[<-G]at T S;rw[I.tuple_inj T S]
end
end L2
namespace Ek
open PySem PySem.Spec PyProof.Rows L2
variable [Tbs]
section
variable {X:Cx} {a:AS} {ta:DT} {pos p p2 pos2:Pos}
def b70{w:List AS}{S:Nat}{L:Pos}(hg:Gl X "enumerate")(Z:X.mg "enumerate"=AD)(D:Gl X "reversed")(C:X.mg "reversed"=AD)(ha:PE X a (up X.K ta))(G:∀e p,a≠.Starred e p):
  PI X (.Tuple w S L) (.Call (.Name "enumerate" p) [.Call (.Name "reversed" p2) [a] [] pos2] [] pos) (upI X.K λenv y k=>ta env y λd b=>∃ds,d=.tup ds/\k (B9 0 ds.reverse) (λ_=>True) b):=by
 have B:An [a] X.env=[(AF,eval a X.env)]:=by rw[o0 G];rfl
 intro m s t H R I q;obtain⟨env,y,F,hE,hS,V,Y⟩:=q;refine IA (J7 I hg Z L2.br4 (Az (Q:=_) (Cg ?_) rfl rfl));refine IA (J7 I D C L2.ae8 (Az (thn (L9 ha G pos2 m s t H (λvs x=>∃v ds b,vs=[v]/\Ev y H b x/\IsD X.K x (.tup ds) v/\RelS X.K b x/\F (B9 0 ds.reverse) (λ_=>True) b) I
  ⟨env,y,(λds b=>match ds with|[d]=>∃ds,d=.tup ds/\F (B9 0 ds.reverse) (λ_=>True) b|_=>False),hE,hS,V,λvs ds H' st' E A hl z j=>?_⟩) λus s1 hh=>?_) B rfl))
 ·match ds,hl with
  |[d],_=>
   obtain⟨v,ws,rfl,U,T⟩:=A.inv_cons;rw[T.inv_nil];obtain⟨ds,rfl,j⟩:=j;exact⟨v,ds,st',rfl,E,U,z,j⟩
 obtain⟨vs,x,J,O,v,ds,b,e1,E,A,z,j⟩:=hh;subst e1;obtain⟨u,rfl,N⟩:=O.one;obtain⟨l,vs,rfl,g,r⟩:=A.tup_inv;cases N;obtain⟨n,M,P,hz⟩:=J.tuple g;have f:n.toArray.size=vs.length:=by rw[Ad,<-M.length]
 have o:(n.toArray.size:Int)<2^63:=by
  rw[f];have W:sizeLine<2^62:=by decide+kernel
  lia
 refine a84 P o λtk=>?_;refine DQ ?_;rw[f];exact b54 J g (Y _ _ b x _ E z (b98 λst H tk z _=>⟨vs.reverse,⟨vs,tk.1.1 _ _ g,rfl,rfl⟩,(r.mono tk).rev⟩) j)
end
end Ek
namespace PySem
open PyProof.Rows
section
variable {prog:Al} {w:Ay} {A:BW} {E:AG->AJ->Prop} {s:AJ}
def bq8{d l:AH}{i:Nat}{items:Array AG}{x:AG}{Q:Option AG->AJ->Prop}(b:B0 s.heap d l (i:Int))(h:Gn s.heap l items)(g:items[i]?=AA x)(k:(items.size:Int)<2^63)
  (p:∀f m,B0 f d l ((i:Int)-1)->Bc d s.heap f->Q (AA x) {s with heap:=f,toks:=m}):AR (model prog w) A (Ec (.ref d)) Q E s:=by
 obtain⟨o,e,n,c⟩:=id b;have q:i<items.size:=(Gy.mp g).1;unfold Ec;refine AB (ED (BO (name:=AV "__next__") b.typeIs F.ek_slot_rev_next
  (BM F.ek_slot_rev_next b.typeIs F.ek_entry_rev_next ?_ (F.ek_args_rev_next _))))
 refine AB (Db (a:=(BC d,[])) rfl ?_)
 try dsimp only
 refine AB (Aw e c (x:=.ref l) rfl ?_);refine AB (Aw e c (x:=Ch (i:Int)) rfl ?_);show AR _ _ (if(i:Int)<0 then _ else _) _ _ s;refine AB (Bm h.typeIs DY.lookup ?_);try dsimp only
 refine AB (HZ ?_);refine AB (ED (IS (j:=i) (x:=x) (s:={s with toks:=s.toks+1}) h ⋯ ⋯ ?_ g ?_))
 ·unfold HN;simp;lia
 refine AB (Aw e c (x:=Ch (i:Int)) rfl ?_);refine AB (Cj e c ∎ ?_);refine AL ⟨x,rfl,AL (p _ _ ?_ (Bl ..))⟩;exact⟨_,CP _ e (Co (Bb c _)),(GO ..).trans n,by
  rw[Bb c];simp⟩
def br1{e l:AH}{Q:Option AG->AJ->Prop}(g:A.handled=AD)(c:B0 s.heap e l (-1))
  (i:∀h,FG e s.heap h->Q AD {s with heap:=h}):AR (model prog w) A (Ec (.ref e)) Q E s:=by
 obtain⟨o,f,j,d⟩:=id c;unfold Ec;refine AB (ED (BO (name:=AV "__next__") c.typeIs F.ek_slot_rev_next
  (BM F.ek_slot_rev_next c.typeIs F.ek_entry_rev_next ?_ (F.ek_args_rev_next _))))
 unfold DV.«reversed.__next__»;refine AB (Db (a:=(BC e,[])) rfl ?_)
 try dsimp only
 refine AB (Aw f d (x:=.ref l) rfl ?_);refine AB (Aw f d (x:=Ch (-1)) rfl ?_);show AR _ _ (if(-1:Int)<0 then _ else _) _ _ s;rw[if_pos ∅];refine AB (Eb ?_);refine AB (AB (Cj f d ∎ ?_));refine Cj (CP _ f (Co (Bb d _))) (Bb d _) ∎ ?_;refine AB ?_;refine AB ?_;simp only[Iw,LN];refine AB (m:=Dq _ _) (Db (a:=Bz) (by first|rfl|(simp only[Dq];rfl)) ?_);refine Ba ?_ (by size_fits);simp only[LO];refine AB (IU ?_)
 first|rw[show A.in1.handled=AD from g]|rw[g]
 refine AB (AL (JR ?_));refine AB (Dz (T:="StopIteration") (b:=AC) ⟨_,Ai _ rfl,rfl⟩ LU ?_);exact AL (i _ ((((Bl ..).extBut.trans (Bl ..).extBut).push _).push _))
end
end PySem
namespace L2
open PySem PySem.Spec PyProof.Rows
abbrev Itw(K:AQ)(a:AH)(n:Nat):It:=
 ⟨λi H=>(∃xs,SqT K H a xs/\xs.length=n)/\i<n,λi H x H'=>H'=H/\∀xs,SqT K H a xs->xs[n-1-i]?=AA x,λi H=>(∃xs,SqT K H a xs/\xs.length=n)/\i=n⟩
def bz0{P:Al}{w:Ay}{K:AQ}{O:AS}(a j:AH)(n:Nat):Turn P w K O (Itw K a n) [j] j (λi h=>B0 h j a ((n:Int)-1-(i:Int))) where
 mem:=by simp
 obj:=λi h f b hb=>by
  obtain⟨o,e,c,d⟩:=f;rw[show b=j by simpa using hb];exact⟨o,e,λv z=>by rw[d]at z;cases z⟩
 keep:=λi h h' f k=>f.stay λo e=>k j ∎ o e
 item:=by
  intro X M G N L i g s C H E I p f r;subst M G N;obtain⟨⟨l,J,U⟩,hi⟩:=r;subst U;obtain⟨q,D,R,Z⟩:=I.tuple J;obtain⟨x,F⟩:∃x,l[l.length-1-i]?=AA x:=⟨_,AM ⋯⟩;obtain⟨u,S,Q⟩:=D.get F;obtain⟨B,A,V,y,v,t⟩:=p j ∎;have m:(q.toArray.size:Int)<2^63:=by
   rw[Ad,<-D.length];have T:sizeLine<2^62:=by decide+kernel
   lia
  rw[show(l.length:Int)-1-(i:Int)=((l.length-1-i:Nat):Int) by lia]at f;refine bq8 f R (x:=u) (by simpa using S) m λh' tk st' sb=>?_;have Y:Inv X g C H {s with heap:=h',toks:=tk}:=I.turned (t':=tk) (λb o hb e=>(sb.2 b hb).trans e) B A y v t;obtain⟨o,W,c,d⟩:=id st';rw[show((l.length-1-i:Nat):Int)-1=(l.length:Int)-1-((i+1:Nat):Int) by lia]at st';exact⟨u,rfl,ad4 (s:={s with heap:=h',toks:=tk}) W c d ∅ ⟨x,H,Y,Q,⟨rfl,λys hy=>by rw[I.tuple_inj hy J];exact F⟩,st',λb hb=>(p b hb).1⟩⟩
 done:=by
  intro X M G N L i g s C H E I p f r;obtain⟨B,A,V,y,v,t⟩:=p j ∎;rw[show(n:Int)-1-(i:Int)=-1 by have:=r.2;lia]at f;exact br1 (I.ok.hd L) f λh' eb=>⟨rfl,I.turned (t':=s.toks) (λb o hb e=>eb b o hb e) B A y v t⟩
 self:=λ_ _ _ _ _ f h=>aa3 f h
end L2
namespace Ek
open PySem PySem.Spec PyProof.Rows L2
variable [Tbs]
section
variable {K:AQ}
def ca4{q}{ds:List D}{vs:List V}{H1}(a:SqT K H1 q vs)(r:IsDs K H1 ds vs):ItOk K H1 (Itw K q ds.length) ds.reverse (λ_=>True) where
 go:=λi st H tk rs _ hi=>⟨⟨vs,tk.1.1 _ _ a,r.len.symm⟩,by simp_all⟩
 yld:=λi st H x H' tk rs _ hi y=>by
  obtain⟨rfl,y⟩:=y;have b:i<ds.length:=by simp_all
  obtain⟨d,e,c⟩:=r.get' (y vs (tk.1.1 _ _ a));exact⟨d,FB b▸e,c.mono tk,Ev.refl,rs⟩
 stop:=λst H tk rs _=>⟨⟨vs,tk.1.1 _ _ a,r.len.symm⟩,∎⟩
end
section
variable {X:Cx} {a tg:AS} {ta:DT} {pos p:Pos}
def cb7(Y:Gl X "reversed")(W:X.mg "reversed"=AD)(Z:PE X a (up X.K ta))(J:∀e p,a≠.Starred e p):
  PI X tg (.Call (.Name "reversed" p) [a] [] pos) (upI X.K λenv A k=>ta env A λd c=>∃ds,d=.tup ds/\k ds.reverse (λ_=>True) c):=by
 have E:An [a] X.env=[(AF,eval a X.env)]:=by rw[o0 J];rfl
 intro n s L H R I q;obtain⟨env,A,G,z,j,T,V⟩:=q;refine IA (J7 I Y W L2.ae8 (Az (thn (L9 Z J pos n s L H (λvs i=>∃v ds c,vs=[v]/\Ev A H c i/\IsD X.K i (.tup ds) v/\RelS X.K c i/\G ds.reverse (λ_=>True) c) I
  ⟨env,A,(λds c=>match ds with|[d]=>∃ds,d=.tup ds/\G ds.reverse (λ_=>True) c|_=>False),z,j,T,λvs ds H' st' F D hl C m=>?_⟩) λus s1 hh=>?_) E rfl))
 ·match ds,hl with
  |[d],_=>
   obtain⟨v,ws,rfl,S,Q⟩:=D.inv_cons;rw[Q.inv_nil];obtain⟨ds,rfl,m⟩:=m;exact⟨v,ds,st',rfl,F,S,C,m⟩
 obtain⟨vs,i,B,O,v,ds,c,e1,F,D,C,m⟩:=hh;subst e1;obtain⟨u,rfl,N⟩:=O.one;obtain⟨l,vs,rfl,w,r⟩:=D.tup_inv;cases N;obtain⟨t,M,P,hz⟩:=B.tuple w;have h:t.toArray.size=vs.length:=by rw[Ad,<-M.length]
 have y:(t.toArray.size:Int)<2^63:=by
  rw[h];have U:sizeLine<2^62:=by decide+kernel
  lia
 refine a84 P y λtk=>?_;rw[h];have x:B0 (s1.heap.push (E4 l ((vs.length:Int)-1))) s1.heap.objs.size l ((vs.length:Int)-1-((0:Nat):Int)):=⟨_,Ai _ rfl,rfl,by rw[show(vs.length:Int)-1-((0:Nat):Int)=(vs.length:Int)-1 by lia];rfl⟩;refine aa3 (s:={s1 with heap:=s1.heap.push (E4 l ((vs.length:Int)-1)),toks:=tk}) x ?_;refine⟨s1.heap.objs.size,[s1.heap.objs.size],_,_,i,rfl,B.kept (t':=tk) λb o e=>AN _ e,bz0 l _ vs.length,x,λb hb=>?_,?_⟩
 ·rw[show b=s1.heap.objs.size by simpa using hb];exact B.fpOk (Ab _) (B.hok.fresh (Ab _))
 ·rw[<-r.len];exact V _ _ c i _ F C (ca4 w r) m
end
end Ek
namespace PySem
variable{b b1 b2 fb:Bool}{h h':BI}{l it a z i1 i2:AH}{xs ys:Array AG}{i:Nat}{Q:AG->AJ->Prop}{R:Bool->AJ->Prop}
abbrev w8(b:Bool)(h:BI)(l:AH)(xs:Array AG):Prop:=match b with|true=>h.IsTuple l xs|false=>h.IsList l xs
abbrev z4(b:Bool)(h:BI)(it l:AH)(i:Nat):Prop:=match b with|true=>h.IsTupleIter it l i|false=>h.IsListIter it l i
def w8.stay(x:w8 b h l xs)(k:∀o,h.get? l=AA o->h'.get? l=AA o):w8 b h' l xs:=by
 cases b with
 |true=>obtain⟨o,a,r⟩:=x;exact⟨o,k o a,r⟩
 |false=>exact Heap.IsList.at x k
def z4.stay(x:z4 b h it l i)(k:∀o,h.get? it=AA o->h'.get? it=AA o):z4 b h' it l i:=by
 cases b with
 |true=>obtain⟨o,a,r⟩:=x;exact⟨o,k o a,r⟩
 |false=>exact Heap.IsListIter.at x k
def z4.obj(x:z4 b h it l i):∃o,h.get? it=AA o/\∀v,o.data≠.cell v:=by
 cases b with
 |true=>obtain⟨o,a,d,c⟩:=x;exact⟨o,a,λv z=>by simp_all⟩
 |false=>obtain⟨o,a,d,c⟩:=x;exact⟨o,a,λv z=>by simp_all⟩
def w8.lt(x:w8 b h l xs):l<h.objs.size:=by
 cases b with
 |true=>obtain⟨o,a,_⟩:=x;exact Ax a
 |false=>obtain⟨o,a,_⟩:=x;exact Ax a
section
variable {prog:Al} {w:Ay} {A:BW} {E:AG->AJ->Prop} {s:AJ}
def ag7{x}(I:z4 b s.heap it l i)(L:w8 b s.heap l xs)(c:xs[i]?=AA x)
  (q:∀a,z4 b a it l (i+1)->Bc it s.heap a->Q x {s with heap:=a}):AR (model prog w) A (Af (.ref it)) Q E s:=by
 cases b with
 |true=>exact bq3 I L c q
 |false=>exact wpAny_nextOf_list_item I L c q
def ai1{Q}(d:A.handled=AD)(I:z4 b s.heap it l i)(L:w8 b s.heap l xs)(c:xs[i]?=AD)
  (q:∀a e,FG it s.heap a->(∃o,a.get? e=AA o/\o.cls=.type "StopIteration")->E (.ref e) {s with heap:=a}):AR (model prog w) A (Af (.ref it)) Q E s:=by
 cases b with
 |true=>exact bq4 d I L c q
 |false=>exact wpAny_nextOf_list_end d I L c q
def a65{Q}(h:Q (s.heap.get? a) s):AR (model prog w) A (Hb a) Q E s:=λΓ p _=>h
abbrev B3(h:BI)(z TI TO:AH)(f:AG)(b:Bool):Prop:=h.get? z=AA {cls:=.type "zip",dict:=AD,data:=.fields #[f,.bool b,.bool AF,.ref TI,.ref TO],slots:=#[]}
def ab9{T c}{x y}(p:Cq h T x y)(a:Bc c h h')(n:T≠c):Cq h' T x y:=a.extBut _ _ n p
def ce6{g d p n:AH}{k:Nat}{x y a b f:AG}(D:IH z g d i1 i2 p n)(u:B3 s.heap z g d f fb)
  (r:∀R:Bool->AJ->Prop,R AC s->AR (model prog w) A (Ah (.ref z)) R E s) (V:Cq s.heap g (.ref i1) (.ref i2)) (U:Cq s.heap d a b)
  (Z:z4 b1 s.heap i1 p k) (Y:z4 b2 s.heap i2 n k) (X:w8 b1 s.heap p xs) (W:w8 b2 s.heap n ys) (S:xs[k]?=AA x) (P:ys[k]?=AA y)
  (q:∀i,B3 i z g d (Ch s.heap.objs.size) AF->Cq i d x y->z4 b1 i i1 p (k+1)->z4 b2 i i2 n (k+1)->Cq i s.heap.objs.size x y->i.objs.size=s.heap.objs.size+1 ->
   (∀c o,c≠z->c≠d->c≠i1->c≠i2->s.heap.get? c=AA o->i.get? c=AA o)->Q (.ref s.heap.objs.size) {s with heap:=i}) :
  AR (model prog w) A (DV.«zip.__next__» ⟨[.ref z],[]⟩) (λfin s'=>∃v,fin=.done (.ret v)/\Q v s') E s:=by
 show AR _ _ (field (.ref z) 2>>=_) _ _ _;refine AB (Aw u rfl (x:=.bool AF) rfl ?_);show AR _ _ (field (.ref z) 3>>=_) _ _ _;refine AB (Aw u rfl (x:=.ref g) rfl ?_);refine AB (Bk V rfl ?_);show AR _ _ (Ah (.ref z)>>=_) _ _ _;refine AB (r _ ?_);simp only[if_true];refine AB (Eb (AB (Aw u rfl (x:=.ref d) rfl ?_)));refine AB (CU u ∎ λg1 G e1=>?_);replace G:B3 g1 z g d .ellipsis fb:=G;refine AB ?_;simp only[JG,JX,Gf,Kk];refine AB (AB (Ga ?_));show AR _ _ (Af (.ref i1)>>=_) _ _ _;refine AB (ag7 (Z.stay λo e=>e1.extBut _ _ D.i1z e) (X.stay λo e=>e1.extBut _ _ D.l1z e) S λg2 J1 e2=>AL ?_);have O:Cq g2 d a b:=ab9 (ab9 U e1 D.TOz) e2 D.TOi1;refine AB (Bk O rfl (AB (Fw O λg3 H e3=>?_)));replace H:Cq g3 d x b:=H;refine AB (Hd (AL (AB (AB (Ga ?_)))));show AR _ _ (Af (.ref i2)>>=_) _ _ _;have j:∀c o,c≠z->c≠i1->c≠d->s.heap.get? c=AA o->g3.get? c=AA o:=λc o n1 n2 n3 e=>e3.extBut _ _ n3 (e2.extBut _ _ n2 (e1.extBut _ _ n1 e));refine AB (ag7 (Y.stay λo e=>j _ _ D.i2z D.i12.symm D.TOi2.symm e) (W.stay λo e=>j _ _ D.l2z D.l2i1 D.l2TO e) P λg4 J2 e4=>AL ?_);have N:Cq g4 d x b:=ab9 H e4 D.TOi2;refine AB (Bk N rfl (AB (Fw N λg5 B e5=>?_)));replace B:Cq g5 d x y:=B;refine AB (Hd (AL (AL ?_)));refine AB (Bk B rfl (AB (wpAny_newTuple ?_)));have K:g5.objs.size=s.heap.objs.size:=by rw[e5.1,e4.1,e3.1,e2.1,e1.1]
 have L:B3 g5 z g d .ellipsis fb:=e5.extBut _ _ D.TOz.symm (e4.extBut _ _ D.i2z.symm (e3.extBut _ _ D.TOz.symm (e2.extBut _ _ D.i1z.symm G)));have C:∀c o,c≠z->c≠d->c≠i1->c≠i2->s.heap.get? c=AA o->g5.get? c=AA o:=λc o n1 n2 n3 n4 e=>e5.extBut _ _ n2 (e4.extBut _ _ n4 (j c o n1 n3 n2 e));have J:z4 b1 g5 i1 p (k+1):=J1.stay λo e=>e5.extBut _ _ D.TOi1.symm (e4.extBut _ _ D.i12 (e3.extBut _ _ D.TOi1.symm e));have I:z4 b2 g5 i2 n (k+1):=J2.stay λo e=>e5.extBut _ _ D.TOi2.symm e;have l:z<g5.objs.size:=Ax L;show AR _ _ (EN (.ref z) (.ref g5.objs.size)>>=_) _ _ _;refine AB ?_;unfold EN;have T:B3 (g5.push {cls:=.type "tuple",data:=.seq #[x,y]}) z g d .ellipsis fb:=AN _ L;refine AB (CU T ∎ λg7 F e7=>?_);replace F:B3 g7 z g d (Ch g5.objs.size) fb:=F;refine CU F ∎ λg8 t e8=>?_;replace t:B3 g8 z g d (Ch g5.objs.size) AF:=t;have h:∀c o,c≠z->g5.get? c=AA o->g8.get? c=AA o:=λc o n1 e=>e8.extBut _ _ n1 (e7.extBut _ _ n1 (AN _ e));have M:Cq g8 g5.objs.size x y:=e8.extBut _ _ (Ex l) (e7.extBut _ _ (Ex l) (Ai _ rfl));have m:g8.objs.size=g5.objs.size+1:=by rw[e8.1,e7.1,Ci]
 rw[K]at t M m;refine AL ⟨_,rfl,?_⟩;show Q (.ref g5.objs.size) _;rw[K];exact q g8 t (h _ _ D.TOz B) (J.stay λo e=>h _ o D.i1z e) (I.stay λo e=>h _ o D.i2z e) M m λc o n1 n2 n3 n4 e=>h c o n1 (C c o n1 n2 n3 n4 e)
def a96{TI TO}(a:B3 s.heap z TI TO .none fb)(r:R AC s):AR (model prog w) A (Ah (.ref z)) R E s:=AB (Aw a rfl rfl (AL r))
def b87{TI TO}(c:B3 s.heap z TI TO (Ch a) fb)(b:s.heap.get? a=AD)(r:R AC s):AR (model prog w) A (Ah (.ref z)) R E s:=by
 refine AB (Aw c rfl rfl ?_);show AR _ _ (Hb (JY a)>>=_) _ _ _;rw[Ct];refine AB (a65 ?_);rw[b];exact AL r
def b26{TI TO}{o}(b:B3 s.heap z TI TO (Ch a) fb)(e:s.heap.get? a=AA o)(r:∀c d,B3 c z TI TO (Ch a) d->Bc z s.heap c->R AF {s with heap:=c}):AR (model prog w) A (Ah (.ref z)) R E s:=by
 refine AB (Aw b rfl rfl ?_);show AR _ _ (Hb (JY a)>>=_) _ _ _;rw[Ct];refine AB (a65 ?_);rw[e];refine AB (Aw b rfl rfl ?_);cases fb with
 |true=>
  exact AL (r s.heap AC b ⟨rfl,λb hb=>rfl⟩)
 |false=>
  exact AB (CU b ∎ λg1 Z1 e1=>AL (r g1 AC Z1 e1))
def cf8{m h y u:AH}{k:Nat}{a b f:AG}{Q:Fin->AJ->Prop}(n:A.handled=AD)(D:IH z m h i1 i2 y u)(g:B3 s.heap z m h f fb)(M:f=.none\/∃c:AH,f=Ch c)
  (I:Cq s.heap m (.ref i1) (.ref i2)) (N:Cq s.heap h a b)
  (t:z4 b1 s.heap i1 y k) (L:z4 b2 s.heap i2 u k) (p:w8 b1 s.heap y xs) (K:w8 b2 s.heap u ys) (F:xs[k]?=AD\/ys[k]?=AD)
  (q:∀C e,(∀c o,c≠z->c≠h->c≠i1->c≠i2->s.heap.get? c=AA o->C.get? c=AA o)->(∃o,C.get? e=AA o/\o.cls=.type "StopIteration")->E (.ref e) {s with heap:=C}) :
  AR (model prog w) A (DV.«zip.__next__» ⟨[.ref z],[]⟩) Q E s:=by
 have free:(∀R:Bool->AJ->Prop,R AC s->AR (model prog w) A (Ah (.ref z)) R E s)->AR (model prog w) A (DV.«zip.__next__» ⟨[.ref z],[]⟩) Q E s:=λfree=>by
  show AR _ _ (field (.ref z) 2>>=_) _ _ _;refine AB (Aw g rfl (x:=.bool AF) rfl ?_);refine AB (Aw g rfl (x:=.ref m) rfl (AB (Bk I rfl ?_)));refine AB (free _ ?_);simp only[if_true];refine AB (Eb (AB (Aw g rfl (x:=.ref h) rfl ?_)));refine AB (CU g ∎ λg1 Z1 e1=>?_);refine AB ?_;simp only[JG,JX,Gf,Kk];refine AB (AB (Ga ?_));show AR _ _ (Af (.ref i1)>>=_) _ _ _;cases hx:xs[k]? with
  |none=>
   refine AB (ai1 n (t.stay λo e=>e1.extBut _ _ D.i1z e) (p.stay λo e=>e1.extBut _ _ D.l1z e) hx λg2 e e2⟨oe,hoe,hce⟩=>?_);have H:B3 g2 z m h .ellipsis fb:=e2 _ _ D.i1z.symm Z1;have l:e≠z:=λv=>by subst v;rw[H]at hoe;cases hoe;simp at hce
   exact CU H ∎ λg3 _ e3=>q g3 e (λc o n1 _ n3 _ v=>e3.extBut _ _ n1 (e2 _ _ n3 (e1.extBut _ _ n1 v))) ⟨oe,e3.extBut _ _ l hoe,hce⟩
  |some x=>
   have B:ys[k]?=AD:=F.elim (λv=>by rw[hx]at v;cases v) id;refine AB (ag7 (t.stay λo e=>e1.extBut _ _ D.i1z e) (p.stay λo e=>e1.extBut _ _ D.l1z e) hx λg2 J1 e2=>AL ?_);have J:Cq g2 h a b:=ab9 (ab9 N e1 D.TOz) e2 D.TOi1;refine AB (Bk J rfl (AB (Fw J λg3 P3 e3=>?_)));refine AB (Hd (AL (AB (AB (Ga ?_)))));show AR _ _ (Af (.ref i2)>>=_) _ _ _;have i:∀c o,c≠z->c≠i1->c≠h->s.heap.get? c=AA o->g3.get? c=AA o:=λc o n1 n2 n3 e=>e3.extBut _ _ n3 (e2.extBut _ _ n2 (e1.extBut _ _ n1 e));refine AB (ai1 n (L.stay λo e=>i _ _ D.i2z D.i12.symm D.TOi2.symm e) (K.stay λo e=>i _ _ D.l2z D.l2i1 D.l2TO e) B λg4 e e4⟨oe,hoe,hce⟩=>?_);have G:B3 g4 z m h .ellipsis fb:=e4 _ _ D.i2z.symm (e3.extBut _ _ D.TOz.symm (e2.extBut _ _ D.i1z.symm Z1));have l:e≠z:=λv=>by subst v;rw[G]at hoe;cases hoe;simp at hce
   exact CU G ∎ λg5 _ e5=>q g5 e (λc o n1 n2 n3 n4 v=>e5.extBut _ _ n1 (e4 _ _ n4 (i c o n1 n3 n2 v))) ⟨oe,e5.extBut _ _ l hoe,hce⟩
 rcases M with rfl|⟨c,rfl⟩
 ·exact free λR r=>a96 g r
 ·cases hd:s.heap.get? c with
  |none=>exact free λR r=>b87 g hd r
  |some o=>
   show AR _ _ (field (.ref z) 2>>=_) _ _ _;refine AB (Aw g rfl (x:=.bool AF) rfl ?_);refine AB (Aw g rfl (x:=.ref m) rfl (AB (Bk I rfl ?_)));refine AB (b26 g hd λg1 fb' Z1 e1=>?_);simp only[Bj,if_false];refine AB ?_;simp only[List.forIn_toArray,Gf,Kk];refine AB (AB (CO ?_));show AR _ _ (Af (.ref i1)>>=_) _ _ _;cases hx:xs[k]? with
   |none=>
    exact AB (ai1 n (t.stay λo e=>e1.extBut _ _ D.i1z e) (p.stay λo e=>e1.extBut _ _ D.l1z e) hx λg2 e e2 v=>q g2 e (λc o n1 _ n3 _ w=>e2 _ _ n3 (e1.extBut _ _ n1 w)) v)
   |some x=>
    have B:ys[k]?=AD:=F.elim (λv=>by rw[hx]at v;cases v) id;refine AB (ag7 (t.stay λo e=>e1.extBut _ _ D.i1z e) (p.stay λo e=>e1.extBut _ _ D.l1z e) hx λg2 J1 e2=>AL (AL ?_));refine AB (AB (CO ?_));show AR _ _ (Af (.ref i2)>>=_) _ _ _;have j:∀c o,c≠z->c≠i1->s.heap.get? c=AA o->g2.get? c=AA o:=λc o n1 n2 e=>e2.extBut _ _ n2 (e1.extBut _ _ n1 e);exact AB (ai1 n (L.stay λo e=>j _ _ D.i2z D.i12.symm e) (K.stay λo e=>j _ _ D.l2z D.l2i1 e) B λg4 e e4 v=>q g4 e (λc o n1 _ n3 n4 w=>e4 _ _ n4 (j c o n1 n3 w)) v)
abbrev ZAt(b1 b2:Bool)(z TI TO i1 i2 l1 l2:AH)(k:Nat)(h:BI):Prop:=(∃f fb,B3 h z TI TO f fb/\(f=.none\/∃c:AH,f=Ch c))/\Cq h TI (.ref i1) (.ref i2)/\(∃a b,Cq h TO a b)/\z4 b1 h i1 l1 k/\z4 b2 h i2 l2 k
def ZAt.type{TI TO l1 l2}{k}(Z:ZAt b1 b2 z TI TO i1 i2 l1 l2 k s.heap):s.TypeIs (.ref z) "zip":=by
 obtain⟨⟨f,c,a,b⟩,_⟩:=Z;exact⟨_,a,rfl⟩
def cf7{TI TO l1 l2}{k}{Q}(h:A.handled=AD)(D:IH z TI TO i1 i2 l1 l2)(Z:ZAt b1 b2 z TI TO i1 i2 l1 l2 k s.heap)(r:w8 b1 s.heap l1 xs)(p:w8 b2 s.heap l2 ys)(j:xs[k]?=AD\/ys[k]?=AD)
  (q:∀g,(∀c o,c≠z->c≠TO->c≠i1->c≠i2->s.heap.get? c=AA o->g.get? c=AA o)->Q AD {s with heap:=g}):AR (model prog w) A (Ec (.ref z)) Q E s:=by
 have d:=Z.type;obtain⟨⟨f,v,l,i⟩,n,⟨a,b,m⟩,u,t⟩:=Z;refine AB (ED (BO d EK (BM EK d Ju ?_ (Jh _))));refine cf8 h D l i n m u t r p j λh' e up⟨o,ho,hc⟩=>?_;exact AB (Dz ⟨o,ho,hc⟩ LU (AL (q _ up)))
def bf6{TI TO l1 l2}{k}(Z:ZAt b1 b2 z TI TO i1 i2 l1 l2 k s.heap)(h:Q (.ref z) s):AR (model prog w) A (HJ (.ref z)) Q E s:=(have a:=Z.type;KQ a KR (BM KR a F.entry_zip_iter (AL ⟨_,rfl,"zip",_,a,EK.lookup,h⟩) (F.args_zip_iter_1 _)))
abbrev itO(b:Bool)(l:AH):Obj:={cls:=.type (if b then "tuple_iterator" else "list_iterator"),data:=.fields #[.ref l,.int 0 0]}
def bg4(L:w8 b s.heap l xs)(q:Q (.ref s.heap.objs.size) {s with heap:=s.heap.push (itO b l)}):AR (model prog w) A (HJ (.ref l)) Q E s:=by
 cases b with
 |true=>exact Jt L q
 |false=>exact KP L q
def bi7(e:h.get? it=AA (itO b l)):z4 b h it l 0:=by
 cases b with
 |true=>exact⟨_,e,rfl,rfl⟩
 |false=>exact⟨_,e,rfl,rfl⟩
@[reducible]noncomputable def zg1(h:BI)(b1:Bool)(l1:AH):BI:=h.push (itO b1 l1)
@[reducible]noncomputable def zg2(h:BI)(b1 b2:Bool)(l1 l2:AH):BI:=(zg1 h b1 l1).push (itO b2 l2)
@[reducible]noncomputable def zg3(h:BI)(b1 b2:Bool)(l1 l2:AH):BI:=(zg2 h b1 b2 l1 l2).push {cls:=.type "tuple",data:=.seq #[.ref h.objs.size,.ref (zg1 h b1 l1).objs.size]}
@[reducible]noncomputable def zg4(h:BI)(b1 b2:Bool)(l1 l2:AH):BI:=(zg3 h b1 b2 l1 l2).push {cls:=.type "tuple",data:=.seq #[.none,.none]}
@[reducible]noncomputable def zg5(h:BI)(b1 b2:Bool)(l1 l2:AH):BI:=(zg4 h b1 b2 l1 l2).push {cls:=.type "zip",data:=.fields #[.none,.bool AF,.bool AF,.ref (zg2 h b1 b2 l1 l2).objs.size,.ref (zg3 h b1 b2 l1 l2).objs.size]}
end
def bt7 b1 b2(l1 l2)(c a:Array AG):
  Meets (DV.«zip.__new__» ⟨[.type "zip",.ref l1,.ref l2],[]⟩) (λ_ R s=>w8 b1 s.heap l1 c/\w8 b2 s.heap l2 a/\R (.ok (.ret (.ref (zg4 s.heap b1 b2 l1 l2).objs.size))) {s with heap:=zg5 s.heap b1 b2 l1 l2}):=
 .of_wp λprog w A R s h=>by
  obtain⟨i,g,d,e,f⟩:=s;obtain⟨m,l,h⟩:=h;have b:=sub_zip;have k:=m;have j:w8 b2 (GP ⟨i.push (itO b1 l1),g,d,e,f⟩) l2 a:=w8.stay l λo=>AN _
  wp_walk using bg4 k,bg4 j
  exact⟨_,rfl,h⟩
section
variable {prog:Al} {w:Ay} {A:BW} {E:AG->AJ->Prop} {s:AJ}
def bx2{a b:AH}(r:w8 b1 s.heap a xs)(p:w8 b2 s.heap b ys)
  (q:∀d,ZAt b1 b2 (s.heap.objs.size+4) (s.heap.objs.size+2) (s.heap.objs.size+3) s.heap.objs.size (s.heap.objs.size+1) a b 0 d->B3 d (s.heap.objs.size+4) (s.heap.objs.size+2) (s.heap.objs.size+3) .none AF->d.objs.size=s.heap.objs.size+5->(∀c o,s.heap.get? c=AA o->d.get? c=AA o)->Q (.ref (s.heap.objs.size+4)) {s with heap:=d}) :
  AR (model prog w) A (call (.type "zip") [.ref a,.ref b]) Q E s:=by
 refine Iz F.called_zip ∅ (F.typeCall_zip_2 _ _) (F.newCall_zip_2 _ _) (λobj=>F.args_object_init_3 obj _ _) F.entry_zip_new (bt7 b1 b2 a b xs ys) ⟨r,p,?_⟩;have i:(zg1 s.heap b1 a).objs.size=s.heap.objs.size+1:=Ci ..;have h:(zg2 s.heap b1 b2 a b).objs.size=s.heap.objs.size+2:=by rw[Ci,i]
 have g:(zg3 s.heap b1 b2 a b).objs.size=s.heap.objs.size+3:=by rw[Ci,h]
 have f:(zg4 s.heap b1 b2 a b).objs.size=s.heap.objs.size+4:=by rw[Ci,g]
 have m:(zg5 s.heap b1 b2 a b).objs.size=s.heap.objs.size+5:=by rw[Ci,f]
 have e:(zg5 s.heap b1 b2 a b).get? (zg4 s.heap b1 b2 a b).objs.size=AA _:=Ai _ rfl;have j:(zg5 s.heap b1 b2 a b).get? (zg3 s.heap b1 b2 a b).objs.size=AA _:=AN _ (Ai _ rfl);have k:(zg5 s.heap b1 b2 a b).get? (zg2 s.heap b1 b2 a b).objs.size=AA _:=AN _ (AN _ (Ai _ rfl));have l:(zg5 s.heap b1 b2 a b).get? (zg1 s.heap b1 a).objs.size=AA (itO b2 b):=AN _ (AN _ (AN _ (Ai _ rfl)));have n:(zg5 s.heap b1 b2 a b).get? s.heap.objs.size=AA (itO b1 a):=AN _ (AN _ (AN _ (AN _ (Ai _ rfl))));show _/\_;rw[h,g,f]at e;rw[i,h]at k;rw[g]at j;rw[i]at l;rw[f];exact⟨⟨_,e,rfl⟩,q _ ⟨⟨_,_,e,.inl rfl⟩,k,⟨_,_,j⟩,bi7 n,bi7 l⟩ e m λc o x=>
  AN _ (AN _ (AN _ (AN _ (AN _ x))))⟩
end
end PySem
namespace PySem
section
variable {prog:Al} {w:Ay} {A:BW} {E:AG->AJ->Prop} {s:AJ}
abbrev ZFr(b1 b2:Bool)(z TI TO i1 i2 l1 l2:AH)(k:Nat)(h:BI):Prop:=B3 h z TI TO .none AF/\Cq h TI (.ref i1) (.ref i2)/\(∃a b,Cq h TO a b)/\z4 b1 h i1 l1 k/\z4 b2 h i2 l2 k
def ZFr.at{b1 b2}{z TI TO i1 i2 l1 l2}{k}{h}(Z:ZFr b1 b2 z TI TO i1 i2 l1 l2 k h):ZAt b1 b2 z TI TO i1 i2 l1 l2 k h:=⟨⟨_,_,Z.1,.inl rfl⟩,Z.2⟩
def ch4{b1 b2}{z TI TO i1 i2 l1 l2}{k}{xs ys}{x y}{Q}(D:IH z TI TO i1 i2 l1 l2)(Z:ZFr b1 b2 z TI TO i1 i2 l1 l2 k s.heap)(m:w8 b1 s.heap l1 xs)(l:w8 b2 s.heap l2 ys)(i:xs[k]?=AA x)(h:ys[k]?=AA y)
  (q:∀h',B3 h' z TI TO (Ch s.heap.objs.size) AF->Cq h' TI (.ref i1) (.ref i2)->(∃a b,Cq h' TO a b)->z4 b1 h' i1 l1 (k+1)->z4 b2 h' i2 l2 (k+1)->Cq h' s.heap.objs.size x y->h'.objs.size=s.heap.objs.size+1->(∀c o,c≠z->c≠TO->c≠i1->c≠i2->s.heap.get? c=AA o->h'.get? c=AA o)->Q (AA (.ref s.heap.objs.size)) {s with heap:=h'}):AR (model prog w) A (Ec (.ref z)) Q E s:=by
 have e:=Z.at.type;obtain⟨f,g,⟨a,b,j⟩,p,n⟩:=Z;refine AB (ED (BO e EK (BM EK e Ju ?_ (Jh _))));exact ce6 D f (λR=>a96 f) g j p n m l i h λh' c1 c2 c3 c4 c5 c6 c7=>AL (q h' c1 (c7 _ _ D.TIz D.TITO D.TIi1 D.TIi2 g) ⟨_,_,c2⟩ c3 c4 c5 c6 c7)
end
end PySem
namespace L2
open PySem PySem.Spec PyProof.Rows
variable{xs:List V}
section
variable {X:Cx} {pins:List (AH×Obj)} {σ:St} {H:Hp} {s:AJ}
abbrev SqB(b:Bool)(K:AQ)(H:Hp)(a:AH)(xs:List V):Prop:=match b with|true=>SqT K H a xs|false=>SqL K H a xs
def Inv.seqB{b}{a}(I:Inv X pins σ H s)(h:SqB b X.K H a xs):∃c:List AG,i6 xs c/\w8 b s.heap a c.toArray/\xs.length<=sizeLine:=by
 cases b with
 |true=>obtain⟨c,d,e,f⟩:=I.tuple h;exact⟨c,d,(e),f⟩
 |false=>obtain⟨c,d,e,f⟩:=I.list h;exact⟨c,d,e.isList,f⟩
def Inv.seqB_inj{b}{a}{ys}(I:Inv X pins σ H s)(d:SqB b X.K H a xs)(c:SqB b X.K H a ys):xs=ys:=by
 cases b with
 |true=>exact I.tuple_inj d c
 |false=>exact I.list_inj d c
end
abbrev Itz(K:AQ)(b1 b2:Bool)(l1 l2:AH):It:=
 ⟨λi H=>∃xs ys x y,SqB b1 K H l1 xs/\SqB b2 K H l2 ys/\xs[i]?=AA x/\ys[i]?=AA y,
   λi H x H'=>∃t v u,H t=AD/\x=.ref t/\H'=upd H t (.tup [v,u])/\(∀xs,SqB b1 K H l1 xs->xs[i]?=AA v)/\∀ys,SqB b2 K H l2 ys->ys[i]?=AA u,
   λi H=>∃xs ys,SqB b1 K H l1 xs/\SqB b2 K H l2 ys/\(xs[i]?=AD\/ys[i]?=AD)⟩
def b59{P:Al}{w:Ay}{K:AQ}{G:List AS}{k0:Nat}{tp:Pos}{b1 b2:Bool}{z n m l j N M:AH}(D:IH z n m l j N M):
  Turn P w K (.Tuple G k0 tp) (Itz K b1 b2 N M) [z,n,m,l,j] z (λi h=>ZFr b1 b2 z n m l j N M i h) where
 mem:=by simp
 obj:=λi h d b hb=>by
  obtain⟨r,v,⟨a,B,t⟩,f,A⟩:=d;simp only[AK,Aa,or_false]at hb
  rcases hb with rfl|rfl|rfl|rfl|rfl
  ·exact⟨_,r,λv z=>by cases z⟩
  ·exact⟨_,v,λv z=>by cases z⟩
  ·exact⟨_,t,λv z=>by cases z⟩
  ·exact f.obj
  ·exact A.obj
 keep:=λi h h' d k=>by
  obtain⟨r,v,⟨a,B,t⟩,f,A⟩:=d;exact⟨k z ∎ _ r,k n ∎ _ v,⟨a,B,k m ∎ _ t⟩,f.stay λo e=>k l ∎ o e,A.stay λo e=>k j ∎ o e⟩
 item:=by
  intro X hP Y hK hc i g s σ H E I O d hg;subst hP Y hK;obtain⟨xs,ys,x,y,L,J,hx,hy⟩:=hg;obtain⟨V,S,L1,hz⟩:=I.seqB L;obtain⟨U,p,L2,W⟩:=I.seqB J;obtain⟨u,hu,ru⟩:=S.get hx;obtain⟨u2,Z,T⟩:=p.get hy;have F:=d;refine ch4 D d L1 L2 (by simpa using hu) (by simpa using Z) λh1 c1 c2 c3 c4 c5 c6 c7 c8=>?_;refine⟨_,rfl,?_⟩;refine wpAny_letOwnedTupleGo_zip c1 λh2 e2 hs2=>?_;have c:Bc z h1 h2:=hs2;have R:z<s.heap.objs.size:=Ax F.1;have kk:∀b u,b∉[z,n,m,l,j]->s.heap.get? b=AA u->h2.get? b=AA u:=λb u hb q=>by
   simp only[AK,Aa,or_false,not_or]at hb;exact(c.2 b hb.1).trans (c8 b u hb.1 hb.2.2.1 hb.2.2.2.1 hb.2.2.2.2 q)
  have hT2:h2.get? s.heap.objs.size=AA {cls:=.type "tuple",data:=.seq #[u,u2]}:=(c.2 _ (Ex R)).trans c6;obtain⟨a,B,c3⟩:=c3;have C:ZFr b1 b2 z n m l j N M (i+1) h2:=⟨e2,(c.2 _ D.TIz).trans c2,⟨a,B,(c.2 _ D.TOz).trans c3⟩,c4.stay λo e=>(c.2 _ D.i1z).trans e,c5.stay λo e=>(c.2 _ D.i2z).trans e⟩;have hT':H s.heap.objs.size=AD:=I.hok.fresh (Ab _);have f:Inv X g σ (upd H s.heap.objs.size (.tup [x,y])) {s with heap:=h2,toks:=s.toks}:=by
   refine I.turnedNew (ch:=[z,n,m,l,j]) O kk (λb hb=>?_) ?_
   ·obtain⟨r,v,⟨a,B,t⟩,f,A⟩:=C;simp only[AK,Aa,or_false]at hb
    rcases hb with rfl|rfl|rfl|rfl|rfl
    ·exact⟨_,r⟩
    ·exact⟨_,v⟩
    ·exact⟨_,t⟩
    ·obtain⟨o,e,_⟩:=f.obj;exact⟨o,e⟩
    ·obtain⟨o,e,_⟩:=A.obj;exact⟨o,e⟩
   ·exact⟨by show 2<=sizeLine;decide,[u,u2],.cons ru (.cons T .nil),⟨_,hT2,rfl,rfl,_,rfl⟩⟩
  refine⟨.ref s.heap.objs.size,_,f,rfl,⟨s.heap.objs.size,x,y,hT',rfl,rfl,λzs hq=>by rw[I.seqB_inj hq L];exact hx,λzs hq=>by rw[I.seqB_inj hq J];exact hy⟩,C,λb hb=>?_⟩;have nb:b≠s.heap.objs.size:=by
   obtain⟨r,v,⟨a,B,t⟩,f,A⟩:=F;simp only[AK,Aa,or_false]at hb
   rcases hb with rfl|rfl|rfl|rfl|rfl
   ·exact BR (Ax r)
   ·exact BR (Ax v)
   ·exact BR (Ax t)
   ·obtain⟨o,e,_⟩:=f.obj;exact BR (Ax e)
   ·obtain⟨o,e,_⟩:=A.obj;exact BR (Ax e)
  rw[j7 nb];exact(O b hb).1
 done:=by
  intro X hP Y hK hc i g s σ H E I O d hg;subst hP Y hK;obtain⟨xs,ys,L,J,he⟩:=hg;obtain⟨V,S,L1,hz⟩:=I.seqB L;obtain⟨U,p,L2,W⟩:=I.seqB J;have l1':=S.length;have l2':=p.length;refine cf7 (I.ok.hd hc) D d.at L1 L2 ?_ λh1 up=>⟨rfl,?_⟩
  ·rcases he with e|e
   ·refine .inl ?_;have:=HR.mp e;simp;lia
   ·refine .inr ?_;have:=HR.mp e;simp;lia
  ·exact I.turnedAll (t':=s.toks) (ch:=[z,n,m,l,j]) O λb u hb q=>by
    simp only[AK,Aa,or_false,not_or]at hb;exact up b u hb.1 hb.2.2.1 hb.2.2.2.1 hb.2.2.2.2 q
 self:=λA i s Q E d h=>bf6 d.at h
section
variable {X:Cx}
def b62:Bn "zip"=AA (.type "zip"):=by decide+kernel
def cu0{elts}{k0}{tp}{pins}{d:St}{H1}{s1}{R}{b1 b2}{l1 l2}{ys}{E}(c:Inv X pins d H1 s1)(i:SqB b1 X.K H1 l1 xs)(h:SqB b2 X.K H1 l2 ys)(q:R (Itz X.K b1 b2 l1 l2) H1):
  AR (model X.prog X.w) X.A (call (.type "zip") [.ref l1,.ref l2]) (λv s=>AR (model X.prog X.w) X.A (HJ v) (PIE X pins d (.Tuple elts k0 tp) R) E s) E s1:=by
 obtain⟨k,t,f,u⟩:=c.seqB i;obtain⟨j,g,e,l⟩:=c.seqB h;refine bx2 f e λh' Z Z0 sz kk=>bf6 Z ?_;have r:=c.kept (t':=s1.toks) kk;obtain⟨_,n,m,p,o⟩:=Z;refine⟨s1.heap.objs.size+4,[s1.heap.objs.size+4,s1.heap.objs.size+2,s1.heap.objs.size+3,s1.heap.objs.size,s1.heap.objs.size+1],_,_,H1,rfl,r,b59 (zipApart_new f.lt e.lt),⟨Z0,n,m,p,o⟩,λb hb=>?_,q⟩;have a:s1.heap.objs.size<=b:=by
  simp at hb
  rcases hb with rfl|rfl|rfl|rfl|rfl
  ·exact Gz _ _
  ·exact Gz _ _
  ·exact Gz _ _
  ·exact Ab _
  ·exact Gz _ _
 exact c.fpOk a (c.hok.fresh a)
end
end L2
namespace L2
open PySem PySem.Spec PyProof.Rows
section
variable {X:Cx}
abbrev de2:V->List V->Hp->VK->Prop:=λx vs H Q=>∃l xs,x=.ref l/\vs=[]/\H l=AA (.lst xs)/\Q .non (upd H l (.lst xs.reverse))
def cn7:MtM X "list.reverse" de2:=by
 intro c s i H x k v m Q I f g h;obtain⟨l,j,rfl,rfl,d,q⟩:=h;cases f;have b:=g.zero;subst b;obtain⟨z,a,n,r,o,e⟩:=I.lstM d;refine Ed F.slot_list_reverse ⟨_,e,rfl⟩ F.entry_list_reverse (F.args_list_reverse_1 _) (AutoSeq1.list_reverse_list_0 l a.toArray n (by rw[Ad];lia)) ⟨e,?_⟩;refine⟨.non,_,I.lset (its':=a.reverse) d e ?_ r.reverse ?_,rfl,q⟩
 ·simp
 ·rw[FU];lia
end
end L2
namespace Ek
open PySem PySem.Spec PyProof.Rows L2
variable [Tbs]
section
variable {X:Cx} {a:AS} {ta:DT} {pos:Pos}
def cj4{apos}(k:PE X a (up X.K ta))(c:∀i p j,a≠.Call (.Name i p) [] [] j)(b:(apos.endLine==pos.line)=AC):
  PE X (.Call (.Attribute a "reverse" apos) [] [] pos) (up X.K λenv st Q=>ta env st λx st1=>ae3 x st1 Q):=
 PE.imp (bl5 PySem.F.plainAttrs_list PySem.F.slot_list_reverse PySem.F.type_list_reverse cn7 k (G2 c) b) λσ H Q q=>up1 q λv d H' st' Qd is rs e hq=>by
  cases d<;>first|exact AU e|skip
  obtain⟨l,h,e⟩:=e;obtain⟨g,f,r⟩:=rs.lst h;rw[is.ref_inv];exact⟨.inl ⟨rfl,g,.inl (.inl f)⟩,_,g,rfl,rfl,f,hq _ _ _ (c9 st' _ (.lst l.reverse)) (Ev.put h) .non (rs.putOld f r.rev) e⟩
end
end Ek
namespace Ek
open PySem PySem.Spec PyProof.Rows L2
variable [Tbs]
section
variable {X:Cx} {a b:AS} {ta tb:DT} {pos p:Pos} {K:AQ}
def bb4 ds es:(E2 ds es).length=min ds.length es.length:=by unfold E2;rw[AT,IG]
def b85{ds es}{i:Nat}{d e}(b:ds[i]?=AA d)(a:es[i]?=AA e):(E2 ds es)[i]?=AA (.tup [d,e]):=by
 have h:(ds.zip es)[i]?=AA (d,e):=List.getElem?_zip_eq_some.mpr ⟨b,a⟩;unfold E2;rw[Aj,h];rfl
def ct6{w s:Bool}{q p:AH}{ds o:List D}{A:Hp}{k:Sto->Prop}(h:∀st H,TK K A H->RelS K st H->k st->(∃a,SqB w K H q a/\IsDs K H ds a)/\∃b,SqB s K H p b/\IsDs K H o b):ItOk K A (Itz K w s q p) (E2 ds o) k where
 go:=λi st H tk rs hc hi=>by
  obtain⟨⟨a,j,r⟩,b,g,f⟩:=h st H tk rs hc;rw[bb4]at hi;obtain⟨v,F,_⟩:=r.get (AM (show i<ds.length by lia));obtain⟨u,n,_⟩:=f.get (AM (show i<o.length by lia));exact⟨a,b,v,u,j,g,F,n⟩
 yld:=λi st H x H' tk rs hc hi y=>by
  obtain⟨t,v,u,l,rfl,rfl,C,B⟩:=y;obtain⟨⟨a,j,r⟩,b,g,f⟩:=h st H tk rs hc;obtain⟨d,I,E⟩:=r.get' (C a j);obtain⟨e,G,m⟩:=f.get' (B b g);exact⟨_,b85 I G,IsD.mk (SqX.of p8) (.cons (E.mono (TK.new l)) (.cons (m.mono (TK.new l)) .nil)),Ev.new l,rs.new l⟩
 stop:=λst H tk rs hc=>by
  obtain⟨⟨a,j,r⟩,b,g,f⟩:=h st H tk rs hc;refine⟨a,b,j,g,?_⟩;rw[bb4,r.len,f.len]
  rcases Nat.le_total a.length b.length with z|z
  ·exact .inl (by rw[HA z];exact Bu (Ab _))
  ·exact .inr (by rw[Gg z];exact Bu (Ab _))
def bh7{d}{xs}{v}{st1}{H1}(g:IsD K H1 d v)(hi:z6 st1 d xs):∃b l,v=.ref l/\∀f H,TK K H1 H->RelS K f H->z6 f d xs->∃a,SqB b K H l a/\IsDs K H xs a:=by
 cases d<;>first|exact AU hi|skip
 ·have e:=hi;subst e;obtain⟨l,a,rfl,c,r⟩:=g.tup_inv;exact⟨AC,l,rfl,λst H tk rs _=>⟨a,tk.1.1 _ _ c,r.mono tk⟩⟩
 ·exact⟨AF,_,g.ref_inv,λst H tk rs=>rs.rd⟩
def cr8{y:List AS}{W:Nat}{T:Pos}(hg:Gl X "zip")(hm:X.mg "zip"=AD)(ha:PE X a (up X.K ta))(hb:PE X b (up X.K tb))(O:∀e p,a≠.Starred e p)(x:∀e p,b≠.Starred e p):PI X (.Tuple y W T) (.Call (.Name "zip" p) [a,b] [] pos)
  (upI X.K λenv st k=>ta env st λd c=>tb env c λe st2=>∃h g,z6 st2 d h/\z6 st2 e g/\k (E2 h g) (λst'=>z6 st' d h/\z6 st' e g) st2):=by
 have t:An [b] X.env=[(AF,eval b X.env)]:=by rw[o0 x];rfl
 have D:An [a,b] X.env=(AF,eval a X.env)::An [b] X.env:=by rw[o0 O]
 intro r s Q H R I q;obtain⟨env,st,G,hE,hS,ht,hq⟩:=q;have hA:=ah7 ha hb O x;refine IA (J7 I hg hm L2.b62 (Az (thn (hA pos r s Q H (λvs m=>∃v w d e c,vs=[v,w]/\Ev st H c m/\IsD X.K m d v/\IsD X.K m e w/\RelS X.K c m/\∃h g,z6 c d h/\z6 c e g/\G (E2 h g) (λst'=>z6 st' d h/\z6 st' e g) c) I
  ⟨env,st,(λds c=>match ds with|[d,e]=>∃h g,z6 c d h/\z6 c e g/\G (E2 h g) (λst'=>z6 st' d h/\z6 st' e g) c|_=>False),hE,hS,ht,λvs ds H' st' E o hl l C=>by
   match ds,hl with
   |[d,e],_=>
    obtain⟨v,ws,rfl,i1,i2⟩:=o.inv_cons;obtain⟨w,S,rfl,Z,Y⟩:=i2.inv_cons;rw[Y.inv_nil];exact⟨v,w,d,e,st',rfl,E,i1,Z,l,C⟩⟩) λus s1 hh=>?_) D (by rw[t];rfl)))
 obtain⟨vs,m,I1,V,v,w,d,e,c,e1,E,o,n,l,h,g,N,M,C⟩:=hh;subst e1;obtain⟨u,u2,rfl,U,B⟩:=V.two;obtain⟨b1,l1,rfl,L⟩:=bh7 o N;obtain⟨b2,l2,rfl,J⟩:=bh7 n M;cases U;cases B;obtain⟨vs,A,_⟩:=L c m TK.refl l N;obtain⟨us,z,_⟩:=J c m TK.refl l M;exact cu0 I1 A z (hq _ _ c m _ E l (ct6 λst H tk l hc=>⟨L st H tk l hc.1,J st H tk l hc.2⟩) C)
def cp3(B:X.calm=AC)(A:Gl X "min")(z:X.mg "min"=AD)(D:PE X a (up X.K ta))(C:PE X b (up X.K tb))(l:∀e p,a≠.Starred e p)(g:∀e p,b≠.Starred e p):
  PE X (.Call (.Name "min" p) [a,b] [] pos) (up X.K λenv h Q=>ta env h λx c=>tb env c λy st2=>∃i j,x=.int i/\y=.int j/\Q (.int (if j<i then j else i)) st2):=
 PE.imp (aq8 (bx5 B) A z (by decide+kernel) (ah7 D C l g) ∅ ∅ (o0 l) (by rw[o0 g];rfl)) λσ H Q q=>by
  obtain⟨env,h,G,F,E,t,u⟩:=q;refine⟨env,h,(λds c=>match ds with|[x,y]=>∃i j,x=.int i/\y=.int j/\G (.int (if j<i then j else i)) c|_=>False),F,E,t,λvs ds H' st' ev is hl rs k=>?_⟩
  match ds,hl with
  |[d,e],_=>
   obtain⟨v,I,rfl,s,r⟩:=is.inv_cons;obtain⟨w,m,rfl,o,n⟩:=r.inv_cons;rw[n.inv_nil];obtain⟨i,j,rfl,rfl,k⟩:=k;exact⟨i,j,by rw[s.int_inv,o.int_inv],(u.after ev).here (.int _) rs k⟩
end
end Ek
namespace PySem
variable{z l:AH}{xs:Array AG}
def bv1:Ge (.type "list_reverseiterator") "__len__"=pure AD:=by kernel_rfl
def b76:Ge (.type "list_reverseiterator") "__length_hint__"=pure (AA (.builtin "list_reverseiterator.__length_hint__")):=by kernel_rfl
def b71:isSubtype (.type "list_reverseiterator") (.type "list_reverseiterator")=pure AC:=rfl
def bz6:splitId "list_reverseiterator.__length_hint__"=AA ("list_reverseiterator","__length_hint__"):=rfl
section
variable {prog:Al} {w:Ay} {A:BW} {E:AG->AJ->Prop} {s:AJ}
def cf1{S:AH}{g:AG}{R:IC->AJ->Prop}(E:A.handled=AD)(x:l≠z)(p:S≠z)(y:S≠l)(hz:xs.size<=1000000):
  ∀(m:Nat)(s:AJ)(a:Array AG)(c:Nat),m<=xs.size->s.heap.IsRevIter z l ((m:Int)-1)->s.heap.IsList l xs ->
  s.heap.get? S=AA {cls:=.type "list",dict:=AD,data:=.seq a c,slots:=#[]}->a.toList=(xs.toList.drop m).reverse ->
  (∀h' d t,(∀b o,b∉[S,z]->s.heap.get? b=AA o->h'.get? b=AA o)->h'.get? S=AA {cls:=.type "list",dict:=AD,data:=.seq d t,slots:=#[]}->d.toList=xs.toList.reverse->R (.ok (.ret g)) {s with heap:=h'}) ->
  EC (model prog w) A (.builtin "list.extend.loop" ⟨[.ref S,.ref z,g],[]⟩) R s:=by
 intro m
 induction m with
 |zero=>
  intro s a c D Z L q k r;refine Kw JH ?_;rw[Hu EO _];refine AB (JS E Z λh' up=>AL (r h' a c (λb o hb e=>?_) (up S _ p q) (by rw[k];rfl)));simp only[AK,Aa,or_false,not_or]at hb;exact up b o hb.2 e
 |succ m B=>
  intro s a c D Z L q k r;have F:((m+1:Nat):Int)-1=(m:Int):=by lia
  rw[F]at Z;have C:xs[m]?=AA (xs[m]'⋯):=Array.getElem?_eq_getElem ⋯;refine Kw JH ?_;rw[Hu EO _];refine AB (JF Z L C λh1 Z1 up1=>?_);have h:h1.get? S=AA {cls:=.type "list",dict:=AD,data:=.seq a c,slots:=#[]}:=(up1.2 S p).trans q;refine AB ?_;have j:a.size=xs.size-(m+1):=by
   have:=congrArg CB k;simpa using this
  have f:∀b o,b≠S->h1.get? b=AA o->(h1.update S (DN (·.push xs[m]))).get? b=AA o:=λb o hb e=>(DU _ _ (BE hb)).trans e;refine Hj h rfl (AL ⟨plainId_quiet EO _,B {s with heap:=_} (a.push xs[m]) _ ⋯ ?_ ?_ (CP _ h rfl) ?_ λh2 d t up2 hS2 ha2=>?_⟩)
   (by rw[j,Fp];lia) (by show(a.push _).size<=sizeLine+1;rw[Array.size_push,j,Fp];lia)
  ·exact Z1.at λo e=>f _ o (BE p) e
  ·exact(L.at λo e=>(up1.2 l x).trans e).at λo e=>f _ o (BE y) e
  ·rw[Array.toList_push,k,DF (i:=m) (by rw[Dx];lia),CM];simp
  ·refine r h2 d t (λb o hb e=>up2 b o hb ?_) hS2 ha2;simp only[AK,Aa,or_false,not_or]at hb;exact f b o hb.1 ((up1.2 b hb.2).trans e)
def b05{S:AH}{d:AG}{R:IC->AJ->Prop}{m:Nat}(q:A.handled=AD)(n:l≠z)(k:S≠z)(p:S≠l)(hz:xs.size<=1000000)
  (Z:s.heap.IsRevIter z l ((xs.size:Int)-1)) (L:s.heap.IsList l xs) (r:s.heap.get? S=AA {cls:=.type "list",data:=.seq #[] m})
  (t:∀j a i,(∀b o,b∉[S,z]->s.heap.get? b=AA o->j.get? b=AA o)->j.get? S=AA {cls:=.type "list",dict:=AD,data:=.seq a i,slots:=#[]}->a.toList=xs.toList.reverse->R (.ok (.ret d)) {s with heap:=j}) :
  AR (model g w) A.in1 (Ce (.ref S) (.ref z) d)
   (λfin h=>match fin with|.done f=>R (.ok f) h|.again i=>i.quiet=AC/\EC (model g w) A i R h) (λe h=>R (.error e) h) s:=by
 unfold Ce;refine AB (wpAny_typeOf Z.typeIs ?_);have x:GF (.ref S) (.ref z)=AF:=by simp[GF,k]
 have v:(De "list_reverseiterator"==De "list")=AF:=by decide
 have u:(De "list_reverseiterator"==De "tuple")=AF:=by decide
 simp only[x,v,u,Jp,Bj,if_false];refine AB (Ft Z (AB (CO ?_)));unfold Kx;refine AB (Bm Z.typeIs bv1 ?_);refine AB (Bm Z.typeIs b76 ?_);refine AB (Dz (T:="list_reverseiterator") (b:=AC) Z.typeIs b71 ?_);rw[if_neg ∅];rw[if_pos (by decide+kernel)];refine AL ?_;rw[if_neg (by decide+kernel)];exact AL ⟨plainId_quiet EO _,cf1 q n k p hz xs.size s #[] m (Ab _) Z L r ∎ t⟩
def bs3{Q:AG->AJ->Prop}(n:A.handled=AD)(k:l≠z)(h:z<s.heap.objs.size)(i:l<s.heap.objs.size)(hz:xs.size<=1000000)
  (Z:s.heap.IsRevIter z l ((xs.size:Int)-1)) (L:s.heap.IsList l xs)
  (p:∀h' a j,(∀b o,b≠z->s.heap.get? b=AA o->h'.get? b=AA o)->h'.get? s.heap.objs.size=AA {cls:=.type "list",dict:=AD,data:=.seq a j,slots:=#[]}->a.toList=xs.toList.reverse->Q (.ref s.heap.objs.size) {s with heap:=h'}) :
  AR (model prog w) A (call (.type "list") [.ref z]) Q E s:=by
 refine callType_codes (Q₁:=λobj u=>obj=.ref s.heap.objs.size/\u={s with heap:=s.heap.push {cls:=.type "list",data:=.seq #[]}}) F.called_list (F.typeCall_list_1 _) F.entry_list_init (code_list_new _ ⟨rfl,rfl⟩) λobj u hu=>?_;obtain⟨rfl,rfl⟩:=hu;have d:(s.heap.push {cls:=.type "list",data:=.seq #[]}).get? s.heap.objs.size=AA {cls:=.type "list",data:=.seq #[]}:=Ai _ rfl;refine⟨⟨_,d,rfl⟩,F.args_list_init_2 _ _,?_⟩;show AR _ A.in1.in1 (do let g <-Gb (.ref s.heap.objs.size);Ky (.ref s.heap.objs.size) (λ_=>#[]);letGo g.toList.reverse;Ce (.ref s.heap.objs.size) (.ref z) .none) _ _ _;refine AB ?_;unfold Gb;refine AB (Bk d rfl (AL ?_));show AR _ A.in1.in1 (updateSeq s.heap.objs.size (λ_=>#[])>>=λ_=>letGo (#[]:Array AG).toList.reverse>>=λ_=>Ce (.ref s.heap.objs.size) (.ref z) .none) _ _ _;refine AB (Hj d rfl ?_);have m:=CP (DN (λ_=>(#[]:Array AG))) d rfl;have c:∀b o,s.heap.get? b=AA o->((s.heap.push {cls:=.type "list",data:=.seq #[]}).update s.heap.objs.size (DN (λ_=>(#[]:Array AG)))).get? b=AA o:=λb o e=>(DU _ _ (Ex (Ax e))).trans (AN _ e);refine AB (Hd ?_);refine b05 (A:=A.in1) n k (Ex h) (Ex i) hz (Z.at λo e=>c _ o e) (L.at λo e=>c _ o e) m λh' a j up hS' ha'=>?_;refine⟨rfl,p h' a j (λb o hb e=>up b o (λv=>?_) (c b o e)) hS' ha'⟩;simp only[AK,Aa,or_false]at v
 rcases v with v|v
 ·exact absurd (Ax e) (by rw[v];exact DL _)
 ·exact hb v
end
end PySem
namespace Ek
open PySem PySem.Spec PyProof.Rows L2
variable [Tbs]
section
variable {X:Cx} {a:AS} {ta:DT} {pos p p2 pos2:Pos}
def cu3(hc:X.calm=AC)(hg:Gl X "list")(hm:X.mg "list"=AD)(J:Gl X "reversed")(F:X.mg "reversed"=AD)(ha:PE X a (up X.K ta))(S:∀e p,a≠.Starred e p):
  PE X (.Call (.Name "list" p) [.Call (.Name "reversed" p2) [a] [] pos2] [] pos) (up X.K λenv w Q=>ta env w λx c=>ad7 x c Q):=by
 have D:An [a] X.env=[(AF,eval a X.env)]:=by rw[o0 S];rfl
 intro h s U H Q I q;obtain⟨env,w,N,hE,hS,ht,hq⟩:=q;refine IA (J7 I hg hm a61 (Az (Q:=_) (Cg ?_) rfl rfl));refine IA (J7 I J F L2.ae8 (Az (thn (L9 ha S pos2 h s U H (λvs O=>∃q ds c,vs=[.ref q]/\Ev w H c O/\rdS c q ds/\RelS X.K c O/\ds.length<=1000000/\∀p,c p=AD->N (.ref p) (c9 c p (.lst ds.reverse))) I
  ⟨env,w,(λds c=>match ds with|[d]=>ad7 d c N|_=>False),hE,hS,ht,λvs ds H' st' M is hl y B=>?_⟩) λus s1 hh=>?_) D rfl))
 ·match ds,hl with
  |[d],_=>
   obtain⟨v,ws,rfl,t,Z⟩:=is.inv_cons;rw[Z.inv_nil];have R:ad7 d st' N:=B;cases d<;>first|exact AU R|skip
   obtain⟨ds,h1,h2,h3⟩:=R;exact⟨_,ds,st',by rw[t.ref_inv],M,h1,y,h2,h3⟩
 obtain⟨vs,O,A,W,l,ds,c,e1,M,hr,y,G,B⟩:=hh;subst e1;obtain⟨u,rfl,V⟩:=W.one;cases V;obtain⟨vs,E,r⟩:=y.rd hr;obtain⟨f,P,Y,hz⟩:=A.list E;have j:f.length=ds.length:=by rw[<-P.length,r.len]
 have L:=Y.isList;have i:l<s1.heap.objs.size:=let⟨_,e,_⟩:=L;Ax e;refine Jr L ?_;refine DQ ?_;refine bs3 (s:={s1 with heap:=s1.heap.push (Ix l ((f.toArray.size:Int)-1))}) (z:=s1.heap.objs.size) (A.ok.hd hc) (BR i) (by rw[Ci];exact ET _) (by rw[Ci];exact GN i) (by rw[Ad,j];exact G)
  ⟨_,Ai _ rfl,rfl,rfl⟩ (L.at λo e=>AN _ e) λh' acc' c' up hS' ha'=>?_
 have C:(s1.heap.push (Ix l ((f.toArray.size:Int)-1))).objs.size=s1.heap.objs.size+1:=Ci _ _;have T:s1.heap.objs.size<=(s1.heap.push (Ix l ((f.toArray.size:Int)-1))).objs.size:=by rw[C];exact Ik _
 have k:acc'=f.reverse.toArray:=by
  have:acc'.toList=f.reverse:=by simpa using ha'
  rw[<-this]
 refine⟨.ref _,_,A.laid (t':=s1.toks) (a:=(s1.heap.push (Ix l ((f.toArray.size:Int)-1))).objs.size) (o:=.lst vs.reverse) (λb u e=>up b u (BR (Ax e)) (AN _ e)) T ⟨by rw[FU];exact hz,f.reverse,c',P.reverse,by rw[<-k];exact hS'⟩,rfl,?_⟩;exact(hq.after M).newL y (ds:=ds.reverse) (vs:=vs.reverse) r.rev B _ (A.hok.fresh T)
end
end Ek
namespace Ek
open PySem PySem.Spec PyProof.Rows L2
variable [Tbs]
variable{x:List Bf}{H:Hp}{pos':Pos}
section
variable {X:Cx} {a b c:AS} {ta tb tc:DT} {pos p:Pos} {K:AQ}
abbrev upG(K:AQ)(t:Tg):TG:=λv σ H Q=>∃d env k,IsD K H d v/\RelE K H env σ/\O3 t d env k/\∀env' σ',RelE K H env' σ'->k env'->Q σ' H
def _root_.L2.PG.imp{X}{x}{t t'}(h:PG X x t)(i:∀v a H Q,t' v a H Q->t v a H Q):PG X x t':=λpins s a H v u Q I r q=>h pins s a H v u Q I r (i v a H Q q)
def ci9{i}{x}(g:X.N.Nodup)(hi:X.N[i]?=AA x)(b:Loc X.env.scope x)(f:X.fn x=AC\/X.env.scope.names.lookup x=AA .local):PG X (.Name x pos) (upG X.K (.n i)):=
 PG.imp (bd6 g hi b f) λv σ H Q q=>by
  obtain⟨d,j,k,a,h,c,e⟩:=q;exact e _ _ (h.set a i) c
abbrev ad6:List Nat->TGs
 |[]=>bp8
 |i::is=>bm9 (aw1 i) (ad6 is)
theorem bj5{K}{Q}{k:j8->Prop}:∀f(g)e(a)c,g.length=f.length->IsDs K H g e->RelE K H a c->k (T2 a f g)->(∀b h,RelE K H b h->k b->Q h H)->ad6 f e c H Q
 |[],[],e,a,c,_,r,n,l,m=>⟨r.inv_nil,m _ _ n l⟩
 |i::f,d::g,e,a,c,j,r,n,l,m=>by
  obtain⟨v,o,rfl,q,p⟩:=r.inv_cons;exact⟨v,o,rfl,bj5 f g o _ _ (by simpa using j) p (n.set q i) l m⟩
 |[],d::g,e,a,c,j,_,_,_,_=>by simp at j
 |i::f,[],e,a,c,j,_,_,_,_=>by simp at j
def ct9{b:List AS}{k0}{a:List Nat}(o:X.calm=AC)(h:PGs X b (ad6 a))(n:(CS b X.env).length=a.length)(c:(CS b X.env).findIdx? (·.1)=AD):PG X (.Tuple b k0 pos) (upG X.K (.tup a)):=
 PG.imp (cx0 o h n c) λv σ H Q q=>by
  obtain⟨d,f,k,j,p,⟨s,rfl,i,l⟩,m⟩:=q;obtain⟨q,g,rfl,e,r⟩:=j.tup_inv;exact⟨q,g,rfl,e,r.len▸i,bj5 a s g f σ i r p l m⟩
structure EndsR(K:AQ)(st:Sto)(H:Hp)(Fd:DEnds)(F:Ends):Prop where
 nx:∀env σ H' st',Ev st H st' H'->RelE K H' env σ->RelS K st' H'->Fd.nx env st'->F.nx σ H'
 bk:∀env σ H' st',Ev st H st' H'->RelE K H' env σ->RelS K st' H'->Fd.bk env st'->F.bk σ H'
 ct:∀env σ H' st',Ev st H st' H'->RelE K H' env σ->RelS K st' H'->Fd.ct env st'->F.ct σ H'
 rt:w6 K st H Fd.rt F.rt
theorem EndsR.after{st st1}{H1}{Fd}{F}(e:EndsR K st H Fd F)(a:Ev st H st1 H1):EndsR K st1 H1 Fd F:=
 ⟨λenv σ H' st' ev'=>e.nx env σ H' st' (a.trans ev'),λenv σ H' st' ev'=>e.bk env σ H' st' (a.trans ev'),λenv σ H' st' ev'=>e.ct env σ H' st' (a.trans ev'),e.rt.after a⟩
abbrev upS(K:AQ)(t:DS):TS:=λF σ H=>∃env st Fd,RelE K H env σ/\RelS K st H/\t Fd env st/\EndsR K st H Fd F
variable {t u:DS} {s1:Bf} {l6:List Bf}
def cy2:PSs X [] (upS X.K λF env st=>F.nx env st):=PSs.imp ck2 λF σ H⟨env,st,Fd,hE,hS,ht,hq⟩=>hq.nx env σ H st Ev.refl hE hS ht
def ch9(b:PS X s1 (upS X.K t))(a:PSs X l6 (upS X.K u)):PSs X (s1::l6) (upS X.K λF env st=>t {F with nx:=u F} env st):=
 PSs.imp (b46 b a) λF σ H⟨env,st,Fd,hE,hS,ht,hq⟩=>⟨env,st,{Fd with nx:=u Fd},hE,hS,ht,λenv' σ' H' st' ev hE' hS' q=>⟨env',st',Fd,hE',hS',q,hq.after ev⟩,hq.bk,hq.ct,hq.rt⟩
def bk2{i}{x}(g:X.N.Nodup)(hi:X.N[i]?=AA x)(b:Loc X.env.scope x)(f:PE X a (up X.K ta))(c:Cw a (AA (.Name x pos')) pos.line X.env=pure AF)(e:X.fn x=AC\/X.env.scope.names.lookup x=AA .local):
  PS X (.Assign [.Name x pos'] a pos) (upS X.K λF env st=>ta env st λd st1=>F.nx (env.set i (AA d)) st1):=
 PS.imp (cl6 g hi b f c e) λF σ H⟨env,st,Fd,hE,hS,ht,hq⟩=>⟨env,st,_,hE,hS,ht,λv d H' st' ev is=>hq.nx _ _ H' st' ev ((hE.mono (ev.tk hS)).set is i)⟩
def cx7{o i v}{to ti tv}(s:PE X v (up X.K tv))(u:PE X o (up X.K to))(hi:PE X i (up X.K ti))
  (c:∀w,assign (.Subscript o i pos') X.env w=do
   let e <-holding [w] (eval o X.env)
   let h <-holding [w,e] (eval i X.env)
   Hm pos'
   holding [w,e,h] (KB e h w)
   release [w,e,h] []) (t:GX [.Subscript o i pos'] v pos.line X.env=pure AF) (p:swappedStores [.Subscript o i pos'] v X.env=pure AD) :
  PS X (.Assign [.Subscript o i pos'] v pos) (upS X.K λF env st=>tv env st λd st1=>to env st1 λx st2=>ti env st2 λy st3=>∃a j k f,x=.ref a/\y=.int j/\st3 a=AA (.lst f)/\ixN f.length j=AA k/\F.nx env (c9 st3 a (.lst (f.set k d)))):=
 PS.imp (cn5 s (cn6 u hi b64 c) t p rfl) λF σ H⟨env,st,Fd,hE,hS,ht,hq⟩=>⟨env,st,_,hE,hS,ht,λw d H1 st1 ev1 is1 rs1 q1=>
  ⟨env,st1,_,hE.mono (ev1.tk hS),rs1,q1,λov x H2 st2 ev2 is2 rs2 q2=>⟨env,st2,_,(hE.mono (ev1.tk hS)).mono (ev2.tk rs1),rs2,q2,λiv y H3 st3 ev3 is3 rs3 g=>by
   obtain⟨q,j,k,f,rfl,rfl,m,z,g⟩:=g;obtain⟨n,l,r⟩:=rs3.lst m;have b:=(is1.mono (ev2.tk rs1)).mono (ev3.tk rs2);exact ⟨q,n,j,k,(is2.mono (ev3.tk rs2)).ref_inv,is3.int_inv,l,by rw[<-r.len];exact z,hq.nx env σ _ _ (((ev1.trans ev2).trans ev3).trans (Ev.put m)) ((((hE.mono (ev1.tk hS)).mono (ev2.tk rs1)).mono (ev3.tk rs2)).mono (TK.put l)) (rs3.putOld l (r.set b k)) g⟩⟩⟩⟩
def cg8{o v}{to tv}{f}{C:Str->List Str}(I:∀c b,BJ X.K AO c=AA (AA (.ref b))->f∈C c->Cls X.K b/\M4 X.K b f)(u:PE X v (up X.K tv))(B:PE X o (up X.K to))(z:Cw v (AA (.Attribute o f pos')) pos.line X.env=pure AF):
  PS X (.Assign [.Attribute o f pos'] v pos) (upS X.K λF a j=>tv a j λd st1=>to a st1 λx st2=>∃p c h,x=.ref p/\st2 p=AA (.ins c h)/\f∈C c/\h.length<1000/\F.nx a (c9 st2 p (.ins c (l9 f d h)))):=
 PS.imp (co9 B u z) λF σ H q=>by
  obtain⟨a,j,M,m,l,y,A⟩:=q;refine⟨a,j,_,m,l,y,λw d H1 st1 ev is rs q1=>?_⟩;refine⟨a,st1,_,m.mono (ev.tk l),rs,q1,λy x H2 st2 ev2 is2 rs2 q2=>?_⟩;obtain⟨p,c,h,rfl,e,G,E,D⟩:=q2;obtain⟨b,n,s,t,g,r⟩:=rs2.ins e;obtain⟨L,J⟩:=I c b g G;have k:=is.mono (ev2.tk rs);have i:=TK.putI (K:=X.K) (o:=.ins b n (B2 f w s)) t;refine⟨p,b,n,s,is2.ref_inv,t,L,J,r.length▸E,?_⟩;refine A.nx a σ _ _ ((ev.trans ev2).trans (Ev.put e)) (((m.mono (ev.tk l)).mono (ev2.tk rs)).mono i) (rs2.putAny (ob:=.ins c (l9 f d h)) i ⟨b,n,_,p8,g,(r.put k f).mono i⟩ (by grind)) D
def c91(c:PE X a (up X.K ta))(b:Cw a AD pos.line X.env=pure AF):PS X (.Expr a pos) (upS X.K λF env st=>ta env st λ_ st1=>F.nx env st1):=
 PS.imp (cc1 c b) λF σ H⟨env,st,Fd,hE,hS,ht,hq⟩=>⟨env,st,_,hE,hS,ht,λv d H' st' ev is=>hq.nx _ _ H' st' ev (hE.mono (ev.tk hS))⟩
def cu8(b:PE X a (up X.K ta)):PS X (.Return (AA a) pos) (upS X.K λF env st=>ta env st F.rt):=
 PS.imp (cx1 b) λF σ H⟨env,st,Fd,hE,hS,ht,hq⟩=>⟨env,st,_,hE,hS,ht,hq.rt⟩
def ck4:PS X (.Return AD pos) (upS X.K λF _ st=>F.rt .non st):=PS.imp cg3 λF σ H⟨env,st,Fd,hE,hS,ht,hq⟩=>hq.rt.here .non hS ht
def b91:PS X (.Pass pos) (upS X.K λF env st=>F.nx env st):=PS.imp cd4 λF σ H⟨env,st,Fd,hE,hS,ht,hq⟩=>hq.nx env σ H st Ev.refl hE hS ht
def cf9:PS X (.Continue pos) (upS X.K λF env st=>F.ct env st):=PS.imp bs4 λF σ H⟨env,st,Fd,hE,hS,ht,hq⟩=>hq.ct env σ H st Ev.refl hE hS ht
def c47{tc}{y}(a:PT X c (upB X.K tc))(d:PSs X x (upS X.K t))(b:PSs X y (upS X.K u)):PS X (.If c x y pos) (upS X.K λF env st=>tc env st λk st1=>if k=AC then t F env st1 else u F env st1):=
 PS.imp (c54 a d b) λF σ H⟨env,st,Fd,hE,hS,ht,hq⟩=>⟨env,st,_,hE,hS,ht,λk H' st' ev rs q=>by
  cases k with
  |true=>exact⟨env,st',Fd,hE.mono (ev.tk hS),rs,q,hq.after ev⟩
  |false=>exact⟨env,st',Fd,hE.mono (ev.tk hS),rs,q,hq.after ev⟩⟩
def b42{tc}(i:HI (model X.prog X.w) X.A X.env X.xe)(j:PT X c (upB X.K tc))(l:PSs X x (upS X.K t)):PS X (.While c x [] pos) (upS X.K λF env st=>∃n,B8 tc t F n env st):=
 PS.imp (b35 i j l) λF σ H⟨env,st,Fd,hE,hS,⟨n,ht⟩,hq⟩=>by
  refine⟨λm σ' H'=>∃env' a,RelE X.K H' env' σ'/\RelS X.K a H'/\Ev st H a H'/\B8 tc t Fd m env' a,⟨n,env,st,hE,hS,Ev.refl,ht⟩,?_⟩;rintro m σ1 H1 ⟨env1,st1,hE1,hS1,ev1,w1⟩;cases m with
  |zero=>exact w1.elim
  |succ m=>
   refine⟨env1,st1,_,hE1,hS1,w1,λk H2 st2 ev2 rs2 q2=>?_⟩;cases k with
   |false=>
    exact hq.nx env1 σ1 H2 st2 (ev1.trans ev2) (hE1.mono (ev2.tk hS1)) rs2 q2
   |true=>
    refine⟨λσ' H'=>∃env' a,RelE X.K H' env' σ'/\RelS X.K a H'/\Ev st H a H'/\B8 tc t Fd m env' a,λσ' H' h=>⟨m,ET _,h⟩,?_⟩;have e:=hq.after (ev1.trans ev2);have d:=ev1.trans ev2;exact⟨env1,st2,_,hE1.mono (ev2.tk hS1),rs2,q2,λenv' σ' H' a ev hE' hS' q=>⟨env',a,hE',hS',d.trans ev,q⟩,e.nx,λenv' σ' H' a ev hE' hS' q=>⟨env',a,hE',hS',d.trans ev,q⟩,e.rt⟩
def co0{tg iter}{ti}{g}(u:HI (model X.prog X.w) X.A X.env X.xe)(B:X.calm=AC)(hi:PI X tg iter (upI X.K ti))(z:PG X tg (upG X.K g))(C:PSs X x (upS X.K t))(s:∀v,Dn iter X.env v=pure v):
  PS X (.For tg iter x [] pos) (upS X.K λF env st=>ti env st λitems chk st1=>A7 chk g t F items env st1):=
 PS.imp (cr2 u B hi z C s) λF σ H⟨env,st,Fd,hE,hS,ht,hq⟩=>by
  refine⟨env,st,_,hE,hS,ht,λitems chk st1 H1 J ev1 rs1 ok q1=>?_⟩;refine⟨λi m σ' H'=>m=items.length-i/\i<=items.length/\∃env' a,RelE X.K H' env' σ'/\RelS X.K a H'/\Ev st H a H'/\TK X.K H1 H'/\A7 chk g t Fd (items.drop i) env' a,⟨items.length,∎,Bx _,env,st1,hE.mono (ev1.tk hS),rs1,ev1,TK.refl,q1⟩,?_⟩;rintro i m σ2 H2 ⟨rfl,hi,env2,st2,hE2,hS2,ev2,tk2,k⟩
  by_cases c:i<items.length
  ·right
   rw[DF c]at k;obtain⟨j,k⟩:=k;refine⟨ok.go i st2 H2 tk2 hS2 j c,λσ' H'=>i+1<=items.length/\∃env' a,RelE X.K H' env' σ'/\RelS X.K a H'/\Ev st H a H'/\TK X.K H1 H'/\A7 chk g t Fd (items.drop (i+1)) env' a,λσ' H' h=>⟨items.length-(i+1),⋯,rfl,h⟩,λv H3 y=>?_⟩;obtain⟨d,E,r,n,l⟩:=ok.yld i st2 H2 v H3 tk2 hS2 j c y;have D:d=items[i]:=by simp_all
   subst D;refine⟨_,env2,_,r,hE2.mono (n.tk hS2),k,λenv4 σ4 hE4 q4=>?_⟩;have f:=ev2.trans n;have p:=hq.after f;have o:=tk2.trans (n.tk hS2);exact⟨env4,st2,_,hE4,l,q4,λenv' σ' H' a ev hE' hS' q=>⟨c,env',a,hE',hS',f.trans ev,o.trans (ev.tk l),q⟩,p.nx,λenv' σ' H' a ev hE' hS' q=>⟨c,env',a,hE',hS',f.trans ev,o.trans (ev.tk l),q⟩,p.rt⟩
  ·left
   have e:i=items.length:=by lia
   subst e;rw[He]at k;exact⟨ok.stop st2 H2 tk2 hS2 k.1,hq.nx env2 σ2 H2 st2 ev2 hE2 hS2 k.2⟩
def b74{env:j8}{b:L2.St}{fr:List Nat}{k:Nat}(r:RelE K H env b):RelE K H (S8 fr k env) (L8 fr k b):=by
 refine⟨by simp[S8,L8],λi d h=>?_⟩;unfold S8 at h;unfold L8
 by_cases a:i<fr.length
 ·rw[Ag (by simpa using a),Aj]at h ⊢;rw[AM a]at h ⊢;simp only[GZ,Cf]at h ⊢;cases q:env[fr[i]]? with
  |none=>simp_all
  |some o=>
   rw[q]at h;have f:o=AA d:=h;subst f;obtain⟨v,e,c⟩:=r.at' _ d q;exact⟨v,by rw[e];rfl,c⟩
 ·rw[Au (by simpa using a),DX]at h
  split at h<;>cases h
def a70{X:j8->Sto->ItK->Prop}{g:Tg}{O:DB}{fr:List Nat}{k:Nat}{P:L2.St}{Q:VK}
  (h:up K (λenv I Q=>X env I λitems chk st1=>items.length<=1000000/\B1 chk g O ta (λacc b=>∀p,b p=AD->Q (.ref p) (c9 b p (.lst acc))) items [] (S8 fr k env) st1) P H Q) :
  au9 fr k (upI K X) (upG K g) (upB K O) (up K ta) Q P H:=by
 obtain⟨env,I,Qd,hE,hS,ht,hq⟩:=h;refine⟨env,I,_,hE,hS,ht,λitems chk st1 H1 J ev1 rs1 ok S p hp=>?_⟩;obtain⟨Z,S⟩:=S;have W:RelE K H1 env P:=hE.mono (ev1.tk hS);refine⟨λi m σ' j=>m=items.length-i/\i<=items.length/\∃f b acc s,RelE K j f σ'/\RelS K b j/\b p=AD/\j p=AA (.lst s)/\IsDs K j acc s/\acc.length<=i/\TK K H1 j/\(∀a o,H a=AA o->I a=AD->a≠p/\(∃r,j a=AA r/\TbE o r)/\b a=AD) /\
  B1 chk g O ta (λacc b=>∀p,b p=AD->Qd (.ref p) (c9 b p (.lst acc))) (items.drop i) acc f b,⟨items.length,∎,Bx _,S8 fr k env,st1,[],[],(b74 W).mono (TK.new hp),rs1.new hp,rs1.free hp,p8,.nil,Bx _,TK.new hp,λa o h1 h2=>?_,S⟩,?_⟩
 ·obtain⟨⟨r,x,t⟩,y⟩:=ev1 a o h1 h2;have Y:a≠p:=z5 x hp;exact⟨Y,⟨r,by rw[j7 Y];exact x,t⟩,y⟩
 rintro i m σ2 H2 ⟨rfl,hi,env2,st2,acc,s,hE2,hS2,sp2,hp2,ra,hal,tk2,old,G⟩
 by_cases q:i<items.length
 ·right
  rw[DF q]at G;obtain⟨F,G⟩:=G;refine⟨ok.go i st2 H2 tk2 hS2 F q,λσ' j=>i+1<=items.length/\∃f b acc s,RelE K j f σ'/\RelS K b j/\b p=AD/\j p=AA (.lst s)/\IsDs K j acc s/\acc.length<=i+1/\TK K H1 j/\(∀a o,H a=AA o->I a=AD->a≠p/\(∃r,j a=AA r/\TbE o r)/\b a=AD) /\
   B1 chk g O ta (λacc b=>∀p,b p=AD->Qd (.ref p) (c9 b p (.lst acc))) (items.drop (i+1)) acc f b,λσ' j h=>⟨items.length-(i+1),⋯,rfl,h⟩,λv H3 y=>?_⟩
  obtain⟨d,A,T,N,B⟩:=ok.yld i st2 H2 v H3 tk2 hS2 F q y;have ed:d=items[i]:=by rw[AM q]at A;exact(BA A).symm
  subst ed;refine⟨_,env2,_,T,hE2.mono (N.tk hS2),G,λenv4 σ4 hE4 q4=>?_⟩;have E:∀{j:Hp}{b:Sto},Ev st2 H2 b j->∀a o,H a=AA o->I a=AD->a≠p/\(∃r,j a=AA r/\TbE o r)/\b a=AD:=λev a o h1 h2=>by
   obtain⟨x,⟨o1,y,t1⟩,z⟩:=old a o h1 h2;obtain⟨⟨o2,y',t2⟩,z'⟩:=ev a o1 y z;exact⟨x,⟨o2,y',t1.trans t2⟩,z'⟩
  refine⟨env4,st2,_,hE4,B,q4,λbb H5 st5 ev5 rs5 q5=>?_⟩;have l:Ev st2 H2 st5 H5:=N.trans ev5;have D:TK K H2 H5:=l.tk hS2;obtain⟨V,R⟩:=l.get hp2 sp2 (λ_=>nofun);cases bb with
  |false=>
   simp only[Bj,if_false]at q5 ⊢;exact⟨q,env4,st5,acc,s,hE4.mono (ev5.tk B),rs5,R,V,ra.mono D,⋯,tk2.trans D,E l,q5⟩
  |true=>
   simp only[if_true]at q5 ⊢;refine⟨env4,st5,_,hE4.mono (ev5.tk B),rs5,q5,λw e H6 st6 ev6 is6 rs6 q6=>?_⟩;have u:Ev st2 H2 st6 H6:=l.trans ev6;have C:TK K H2 H6:=u.tk hS2;obtain⟨n,L⟩:=u.get hp2 sp2 (λ_=>nofun);have M:=ra.mono C;have U:s.length<sizeLine:=by
    rw[<-M.len];have:(1000001:Nat)<=sizeLine:=by decide
    lia
   refine⟨s,n,U,q,env4,st6,acc++[e],s++[w],(hE4.mono ((ev5.trans ev6).tk B)).mono (TK.put n),rs6.stay (TK.put n) (λa o h1=>j7 λz=>by rw[z,L]at h1;cases h1) (ah0 (by rw[n];exact λ_ z=>by cases z)),L,p8,(M.append (.cons is6 .nil)).mono (TK.put n),by simp;lia,(tk2.trans C).trans (TK.put n),λa o h1 h2=>?_,q6⟩;obtain⟨x,⟨r,y,t⟩,z⟩:=E u a o h1 h2;exact⟨x,⟨r,by rw[j7 x];exact y,t⟩,z⟩
 ·left
  have e:i=items.length:=by lia
  subst e;rw[He]at G;refine⟨ok.stop st2 H2 tk2 hS2 G.1,hq _ (.ref p) H2 (c9 st2 p (.lst acc)) (λa o h1 h2=>?_) (.ref p) ⟨λa o h1=>?_,hS2.tb⟩ (G.2 p sp2)⟩
  ·obtain⟨x,y,z⟩:=old a o h1 h2;exact⟨y,by rw[G1 x];exact z⟩
  ·by_cases ha:a=p
   ·subst ha;rw[f6]at h1;cases h1;exact⟨s,hp2,ra⟩
   ·rw[G1 ha]at h1;exact hS2.ob a o h1
end
end Ek
namespace Ek
open PySem PySem.Spec PyProof.Rows L2
variable [Tbs]
abbrev de7:Unit->AG->Bool
 |_,.none=>AC
 |_,_=>AF
abbrev au8(prog:Al)(w:Ay):KeyKind prog w Unit where
 is:=de7
 hash:=λ_=>0xFCA86420
 inj:=λ_ _ _ _ _=>rfl
 byValue:=λ_ v h=>by cases v<;>first|rfl|cases h
 pyHash:=λ{A E s k v Q}hv h=>by
  cases v<;>first|cases hv|skip
  exact W.pyHash_slot (T:="NoneType") rfl F.slot_NoneType_hash F.entry_NoneType_hash (F.args_NoneType_hash_1 _) (KW _) (.inl rfl) (AB (AL (AB (HZ (AL ⟨_,_,rfl,h⟩)))))
 eqBool:=λ{A E s a b u v Q}hu hv h=>by
  cases u<;>first|cases hu|skip
  cases v<;>first|cases hv|skip
  unfold PySem.eqBool
  try with_reducible refine CO ?_
  rw[if_pos (by rfl)];exact AB (Eb (AL h))
 «strs»:=λ_ _ _ _ h=>by cases h
section
variable {X:Cx} {a b:AS} {ta tb:DT} {pos:Pos}
def bm1{P}{w}{h:BI}{a}(d:h.DictOfH (NK.dataKind P w) a []):h.MapOf (au8 P w) a (λ_=>AD):=by
 obtain⟨o,f,g,e,c,b,i,_,_⟩:=d;have:f=#[]:=by
  simp_all
 subst this;exact⟨o,#[],g,e,c,b,λe he=>by simp at he,λk=>rfl⟩
def bi0(c:Bool):OpR X (By (if c then .NotIn else .In)) (λx y H Q=>∃a,x=.non/\y=.ref a/\H a=AA (.dT [])/\Q (.bl c) H):=by
 intro d s m H x y v u Q I l j h;obtain⟨a,rfl,rfl,e,q⟩:=h;cases(show u=BC a from j);cases(show v=Bz from l);obtain⟨z,f,i,b,g⟩:=Q6 I.hok (.inl e);have:i=[]:=by cases b;rfl
 subst this;cases c with
 |true=>exact LG (knd:=au8 X.prog X.w) (k:=()) (key:=.none) rfl f (bm1 g) ⟨.bl AC,H,I.tok _,rfl,q⟩
 |false=>exact wpAny_in_of (knd:=au8 X.prog X.w) (k:=()) (key:=.none) rfl f (bm1 g) ⟨.bl AF,H,I.tok _,rfl,q⟩
end
end Ek
namespace HT
open PySem PySem.Spec PyProof.Rows
end HT
namespace L2
open PySem PySem.Spec PyProof.Rows
end L2
namespace Ek
open PySem PySem.Spec PyProof.Rows L2
variable [Tbs]
variable{H:Hp}
mutual
theorem bj4{K:AQ}{H:Hp}(kt:Tbs.kt=AF):∀(d:D){v:V},IsD K H d v->NK.lit d.py=AC->HRd H d.py v
 |.int i,v,h,_=>h.int_inv
 |.str x,v,h,_=>h.str_inv
 |.tup ds,v,h,hl=>by
  obtain⟨a,vs,rfl,q,r⟩:=h.tup_invX;exact⟨a,vs,rfl,q.trk kt,bd8 kt ds r hl⟩
 |.non,v,h,hl=>nomatch hl
 |.bl _,v,h,hl=>nomatch hl
 |.ref _,v,h,hl=>nomatch hl
 |.fn _,v,h,hl=>nomatch hl
 |.clo _ _ _ _,v,h,hl=>nomatch hl
 |.ktup _,v,h,hl=>nomatch hl
theorem bd8{K:AQ}{H:Hp}(kt:Tbs.kt=AF):∀(ds:List D){vs:List V},IsDs K H ds vs->NK.lits (D.pys ds)=AC->O7 H (D.pys ds) vs
 |[],vs,r,_=>r.inv_nil
 |d::ds,vs,r,hl=>by
  obtain⟨v,ws,rfl,i1,i2⟩:=r.inv_cons;have h':NK.lit d.py=AC/\NK.lits (D.pys ds)=AC:=by
   have:(NK.lit d.py&&NK.lits (D.pys ds))=AC:=hl;simpa using this
  exact⟨v,ws,rfl,bj4 kt d i1 h'.1,bd8 kt ds i2 h'.2⟩
end
def as3{K}(d:Tbs.kt=AF){ks}{v}(h:IsD K H (.tup ks) v)(c:D.key (.tup ks)):∃b,v=.ref b/\G9 H (D.tup ks).py b:=by
 obtain⟨a,e,rfl,_⟩:=h.tup_invX;exact⟨a,rfl,c.1,c.2,bj4 d _ h c.1⟩
section
variable {X:Cx} {a b o i v:AS} {ta tb to ti tv:DT} {pos apos pos':Pos}
theorem RelS.dtt{K}{st}(r:RelS K st H){a}{kvs}(h:st a=AA (.dtt kvs)):∃b,H a=AA (.dT b)/\IsPs K H kvs b/\Tbs.kt=AF:=r.ob a _ h
def cr5{c:List Str}(f:c≠[]->Tbs.kt=AF):PE X (.Dict [] [] pos) (up X.K λenv a Q=>c≠[]/\∀p,a p=AD->Q (.ref p) (c9 a p (.dtt []))):=
 PE.imp b16 λσ H Q q=>by
  obtain⟨g,a,i,h,d,b,e⟩:=q;exact λp hp=>e _ (.ref p) _ (c9 a p (.dtt [])) (Ev.newS hp) (.ref p) (d.putAny (TK.new hp) ⟨[],p8,.nil,f b.1⟩ (by simp_all)) (b.2 p (d.free hp))
def ct4(U:X.A.units+200<Bv)(S:PE X a (up X.K ta))(o:PE X b (up X.K tb))(h:∀i p J,a≠.Call (.Name i p) [] [] J)(w:∀e p,b≠.Starred e p)(g:(apos.endLine==pos.line)=AC):
  PE X (.Call (.Attribute a "get" apos) [b] [] pos) (up X.K λenv j Q=>ta env j λx st1=>ax7 x st1/\tb env st1 λy st2=>ax5 x y st2 Q):=
 PE.imp (b51 ⋯ S o ⟨G2 h,by rw[o0 w];rfl,g,by rw[o0 w];rfl⟩) λσ H Q q=>by
  obtain⟨env,j,V,E,C,O,z⟩:=q;refine⟨env,j,_,E,C,O,λx d H1 st1 ev is rs k=>?_⟩;obtain⟨B,k⟩:=k;cases d<;>first|exact B.elim|skip
  rename_i p;obtain⟨L,P⟩:=B;obtain⟨G,T,r,M⟩:=rs.dtt P;refine⟨p,is.ref_inv,.inr ⟨G,.inl T⟩,env,st1,_,E.mono (ev.tk C),rs,k,λy e H2 st2 ev2 is2 rs2 f=>?_⟩;cases e<;>first|exact f.elim|skip
  rename_i N;obtain⟨u,n,R,f⟩:=f;obtain⟨F,s,I,_⟩:=rs2.dtt n;obtain⟨b,rfl,o⟩:=as3 M is2 R;refine⟨_,B4.t s o,?_⟩
  rcases I.look (D.tup N).py with⟨m,l⟩|⟨d,v,m,l,i⟩
  ·rw[l];rw[m]at f;exact z _ _ _ st2 (ev.trans ev2) .non rs2 f
  ·rw[l];rw[m]at f;exact z _ _ _ st2 (ev.trans ev2) i rs2 f
def TK.putT{K}{p}{u}{xs}(h:H p=AA (.dT xs)):TK K H (upd H p u):=TK.upd' (by simp_all) (by grind)
def bd2(i:X.A.units+200<Bv)(b:Bool):OpR X (By (if b then .NotIn else .In)) (λx y H Q=>∃a o,y=.ref a/\B4 H a x o/\Q (.bl (b != o.isSome)) H):=by
 intro d s f H x y v u Q I c e h;obtain⟨a,o,rfl,g,q⟩:=h;cases(show u=BC a from e);cases b with
 |true=>exact cg7 ⋯ I g c λs' I'=>⟨.bl _,H,I',rfl,by cases h:o.isSome<;>(rw[h]at q;exact q)⟩
 |false=>exact bp3 ⋯ I g c λs' I'=>⟨.bl _,H,I',rfl,by cases h:o.isSome<;>(rw[h]at q;exact q)⟩
def bj2{j:Bool}{v w:V}{d e:D}{f:Hp}{g:Sto}{y:DK}{Q:VK}(x:IsD X.K f d v)(u:IsD X.K f e w)(h:RelS X.K g f)(c:U8 j d e g y)(m:w6 X.K g f y Q):(∃a o,w=.ref a/\B4 f a v o/\Q (.bl (j != o.isSome)) f)\/∃a,v=.non/\w=.ref a/\f a=AA (.dT [])/\Q (.bl j) f:=by
 cases d<;>first|exact AU c|(cases e<;>first|exact AU c|skip)
 ·rename_i a;obtain⟨n,c⟩:=c;obtain⟨q,p,r,s⟩:=h.dtt n;have:q=[]:=BD (by rw[<-r.len];rfl);subst this;exact .inr ⟨_,(by cases x;rfl),u.ref_inv,p,m.here (.bl _) h c⟩
 rename_i A a;refine .inl ?_;obtain⟨z,n,B,c⟩:=c;obtain⟨q,p,r,s⟩:=h.dtt n;obtain⟨b,rfl,C⟩:=as3 s x B;refine⟨_,_,u.ref_inv,B4.t p C,?_⟩
 rcases r.look (D.tup A).py with⟨l,k⟩|⟨d,v,l,k,i⟩
 ·rw[k];rw[l]at c;exact m.here (.bl _) h c
 ·rw[k];rw[l]at c;exact m.here (.bl _) h c
def cx3{f:Bool}{c}(h:c=if f then .NotIn else .In)(g:X.A.units+200<Bv)(l:PE X a (up X.K ta))(j:PE X b (up X.K tb))(i:∀m k p,b≠.Set m k p):PE X (.Compare a [c] [b] pos) (up X.K λenv st Q=>ta env st λx st1=>tb env st1 λy st2=>U8 f x y st2 Q):=by
 subst h;exact PE.imp (ag5 ((bd2 g f).or (bi0 f)) l j (P6 _ b i)) λσ H Q q=>up2 q λv w d e H' st' Qd i1 i2 rs ht=>bj2 i1 i2 rs ht
def co1{g:Bool}{c}(n:c=if g then .NotIn else .In)(l:X.A.units+200<Bv)(s:PE X a (up X.K ta))(r:PE X b (up X.K tb))(o:∀v k p,b≠.Set v k p):
  PT X (.Compare a [c] [b] pos) (upB X.K λenv h Q=>ta env h λx st1=>tb env st1 λy st2=>U8 g x y st2 λd st'=>∃k,d=.bl k/\Q k st'):=by
 subst n;refine PT.imp (ah3 ((bd2 l g).or (bi0 g)) s r (P6 _ b o)) λσ H Q q=>?_;obtain⟨env,h,z,u,t,j,m⟩:=q;refine up2 (Q:=λx H'=>∃k,x=.bl k/\Q k H') ⟨env,h,_,u,t,j,λv d H' st' ev is rs i=>?_⟩ λv w d e H' st' z i1 i2 rs j=>bj2 i1 i2 rs j;obtain⟨k,rfl,i⟩:=i;exact⟨k,is.bl_inv,m k H' st' ev rs i⟩
def cd1(s:X.A.units+200<Bv)(j:PE X v (up X.K tv))(l:PE X o (up X.K to))(hi:PE X i (up X.K ti))(k:Cw v (AA (.Subscript o i pos')) pos.line X.env=pure AF):
  PS X (.Assign [.Subscript o i pos'] v pos) (upS X.K λF env st=>tv env st λd st1=>to env st1 λx st2=>ti env st2 λy st3=>av4 x y d st3 λst4=>F.nx env st4):=
 PS.imp (ch1 ⋯ l hi j k) λF σ H⟨env,st,Fd,hE,hS,ht,hq⟩=>⟨env,st,_,hE,hS,ht,λw d H1 st1 ev1 is1 rs1 q1=>
  ⟨env,st1,_,hE.mono (ev1.tk hS),rs1,q1,λov x H2 st2 ev2 is2 rs2 q2=>⟨env,st2,_,(hE.mono (ev1.tk hS)).mono (ev2.tk rs1),rs2,q2,λiv y H3 st3 ev3 is3 rs3 e=>by
   cases x<;>first|exact e.elim|(cases y<;>first|exact e.elim|skip)
   obtain⟨f,h,n,m,e⟩:=e;obtain⟨q,c,r,g⟩:=rs3.dtt h;obtain⟨b,rfl,p⟩:=as3 g is3 n;have a:=(is1.mono (ev2.tk rs1)).mono (ev3.tk rs2);refine⟨_,_,(is2.mono (ev3.tk rs2)).ref_inv,ad8.t c p (by rw[<-r.len];exact m),?_⟩;exact hq.nx env σ _ _ (((ev1.trans ev2).trans ev3).trans (Ev.put h)) ((((hE.mono (ev1.tk hS)).mono (ev2.tk rs1)).mono (ev3.tk rs2)).mono (TK.putT c)) (rs3.putAny (ob:=.dtt (Y7 f _ d)) (TK.putT c) ⟨_,p8,(r.put a _).mono (TK.putT c),g⟩ (by rw[c];exact λ_ z=>by cases z)) e⟩⟩⟩
end
end Ek
namespace Ek
open PySem PySem.Spec PyProof.Rows L2
variable [Tbs]
section
variable {X:Cx} {a b c:AS} {ta tb tc:DT} {pos apos p:Pos}
structure IscOk(K:AQ)(c:Str)(Ca:AH):Prop where
 at_:BJ K AO c=AA (AA (.ref Ca))
 cl:Cls K Ca
 ha:Bg K (.ref Ca) "__class__"=AA (AA (.builtin "object.__class__"))
 hn:W.specialIn K (.builtin "object.__class__") "__get__"=AA (AA (.builtin "getset_descriptor.__get__"))
 htk:W.takesIn K (.builtin "object.__class__")=AA AC
 hm:W.mroIn K Ca (.type "object")=AA AC
 no:W.kitOne K (.type "tuple") (.ref Ca)=AA AF
 yes:W.kitOne K (.ref Ca) (.ref Ca)=AA AC
end
end Ek
namespace Ek
open PySem PySem.Spec PyProof.Rows L2
variable [Tbs]
end Ek
namespace PySem
end PySem
namespace Ek
open PySem PySem.Spec PyProof.Rows L2
variable [Tbs]
end Ek
namespace Ek
open PySem PySem.Spec PyProof.Rows L2
variable [Tbs]
section
variable {X:Cx} {a b:AS} {ta tb:DT} {pos:Pos}
def bi8(p:X.A.units+200<Bv):OpR X (By .In) λx y H Q=>∃d a c b,IsD X.K H d x/\y=.ref a/\SqL X.K H a c/\IsDs X.K H b c/\d.pure=AC/\D.pures b=AC/\l8 d<=150/\Q (.bl (b.any λe=>deq e d)) H:=by
 intro f s w H x y v u Q I k j h;obtain⟨d,a,c,b,t,rfl,o,n,i,g,r,q⟩:=h;cases j;obtain⟨B,m⟩:=E3 I t i k;obtain⟨z,l⟩:=aq3 I o n g;exact SeqAt.in_list_reads l m (S7 b g) (G5 d i) (ab6 p r) (by rw[ah4];exact⟨.bl _,H,I,rfl,q⟩)
def bk1{v w:V}{d e:D}{b:Hp}{c:Sto}{j:DK}{Q:VK}(p:IsD X.K b d v)(o:IsD X.K b e w)(i:RelS X.K c b)(g:U6 d e c j)(r:w6 X.K c b j Q):∃d a f h,IsD X.K b d v/\w=.ref a/\SqL X.K b a f/\IsDs X.K b h f/\d.pure=AC/\D.pures h=AC/\l8 d<=150/\Q (.bl (h.any λe=>deq e d)) b:=by
 cases e<;>first|exact AU g|skip
 obtain⟨t,q,n,m,s,g⟩:=g;obtain⟨f,l,k⟩:=i.rd q;exact⟨d,_,f,t,p,o.ref_inv,l,k,n,m,s,r.here (.bl _) i g⟩
def ck8(c:X.A.units+200<Bv)(h:PE X a (up X.K ta))(g:PE X b (up X.K tb))(f:∀i k p,b≠.Set i k p):PE X (.Compare a [.In] [b] pos) (up X.K λenv st Q=>ta env st λx st1=>tb env st1 λy st2=>U6 x y st2 Q):=
 PE.imp (ag5 (bi8 c) h g (P6 _ b f)) λσ H Q q=>up2 q λv w d e H' st' Qd i1=>bk1 i1
def cm6(i:X.A.units+200<Bv)(n:PE X a (up X.K ta))(m:PE X b (up X.K tb))(l:∀s k p,b≠.Set s k p):
  PT X (.Compare a [.In] [b] pos) (upB X.K λenv f Q=>ta env f λx st1=>tb env st1 λy st2=>U6 x y st2 λd st'=>∃k,d=.bl k/\Q k st'):=by
 refine PT.imp (ah3 (bi8 i) n m (P6 _ b l)) λσ H Q q=>?_;obtain⟨env,f,t,r,o,h,j⟩:=q;refine up2 (Q:=λx H'=>∃k,x=.bl k/\Q k H') ⟨env,f,_,r,o,h,λv d H' st' ev is rs g=>?_⟩ λv w d e H' st' t i1 i2 rs h=>bk1 i1 i2 rs h;obtain⟨k,rfl,g⟩:=g;exact⟨k,is.bl_inv,j k H' st' ev rs g⟩
end
end Ek
namespace Ek
open PySem PySem.Spec PyProof.Rows L2
variable [Tbs]
@[reducible]noncomputable def Fz:HO:=.ext λ_=>True
def aw3:∀a,Fz≠.lst a:=λ_=>nofun
def ai4{P}{w}{H}{h}{a}{o}(e:h.get? a=AA o):t0 P w H h a (.frz o Fz):=⟨e,trivial,⟨o,e⟩,λ_ _ _ _=>trivial⟩
section
variable {X:Cx} {pins:List (AH×Obj)} {σ:L2.St} {H H':Hp} {s:AJ}
def bv4{x:Str}{c:AH}{o:Obj}{v:Option AG}(I:L2.Inv X pins σ H s)(i:X.env.cells.lookup x=AA c)(f:X.fn x=AF)(g:X.s₀.heap.objs.size<=c)(w:H c=AD)(h:s.heap.get? c=AA o)(y:o.data=.cell v):
  L2.Inv X pins σ (upd H c (.frz o Fz)) s:=by
 have nn:∀{b:AH}{u:HO},H b=AA u->b≠c:=λe=>z5 e w;refine⟨I.ok,I.os,I.bare,⟨I.base.keep,I.base.slot,λb ob e n hx=>?_,I.base.there,λb xs e=>?_,λb ob u e=>?_,λb ps e=>?_⟩,I.loc,I.cell,?_,λx' c' e=>?_,λp hp=>?_,λb u e=>?_,I.len⟩
 ·rw[j7 (BR (Ar (Ax e) g))];exact I.base.free b ob e n hx
 ·have:=I.base.tups b xs e;rw[j7 (nn this)];exact this
 ·have:=I.base.frzs b ob u e;rw[j7 (nn this)];exact this
 ·obtain⟨m,q⟩:=I.base.tbls b ps e;exact⟨m,by rw[j7 (nn q)];exact q⟩
 ·rw[j7 (BE (I.cne x c i))];exact I.free
 ·by_cases j:c'=c
  ·subst j;have:=I.ok.inj x' x c' e i;subst this;exact .inr ⟨f,o,Fz,p8⟩
  ·rw[j7 j];exact I.freeC x' c' e
 ·obtain⟨e,n,t,l,d⟩:=I.pin p hp;refine⟨e,?_,t,l,d⟩;rw[j7 λz=>?_]
  ·exact n
  ·rw[z,h]at e;exact d v (by rw[<-BA e];exact y)
 ·by_cases k:b=c
  ·subst k;rw[p8]at e;cases e;exact ai4 h
  ·rw[j7 k]at e;exact(I.hok b u e).stay (λ_ _ _ q=>q) (λa r=>by rw[j7 (nn r)];exact r) λa xs r=>by rw[j7 (nn r)];exact r
def bd9{K}(e:G8 H H'):TK K H H':=⟨⟨λa xs q=>by
 rcases q with(q|⟨a,q⟩)|q
 ·exact .inl (.inl (e _ _ q))
 ·exact .inl (.inr ⟨a,e _ _ q⟩)
 ·exact .inr q,λa xs=>e _ _⟩,λa o u q _=>e _ _ q⟩
def bb6{K}{a}{o}(z:ObR K H a o):∃u,H a=AA u/\∀f,u≠.tbl f:=by
 cases o with
 |lst k=>obtain⟨d,b,_⟩:=z;exact⟨_,b,λ_=>nofun⟩
 |fro k=>
  obtain⟨d,b|⟨u,b⟩,_⟩:=z
  ·simp_all
  ·simp_all
 |dct e=>obtain⟨d,b,_⟩:=z;exact⟨_,b,λ_=>nofun⟩
 |dtt e=>obtain⟨d,b,_⟩:=z;exact⟨_,b,λ_=>nofun⟩
 |ins c m=>obtain⟨C,n,d,b,_⟩:=z;exact⟨_,b,λ_=>nofun⟩
def b38{K}{st}(r:RelS K st H)(e:G8 H H'):=r.stay (bd9 e) λa o h=>by
 obtain⟨u,b,_⟩:=bb6 (r.ob a o h);rw[b,e _ _ b] λa ps=>e _ _
def b92{st:Sto}(e:G8 H H'):Ev st H st H':=λa o h k=>⟨⟨o,e _ _ h,.inl rfl⟩,k⟩
theorem a67(I:L2.Inv X pins σ H s):∀(e:List Str),(∀x∈e,X.fn x=AF/\X.ow x=AC/\∃c,X.env.cells.lookup x=AA c) ->
  ∃l,L2.Inv X pins σ l s/\G8 H l/\∀x∈e,∃c o u,X.env.cells.lookup x=AA c/\l c=AA (.frz o u)/\(∀E,u≠.lst E)/\s.heap.get? c=AA o
 |[],_=>⟨H,I,G8.refl H,λx h=>absurd h Aa⟩
 |x::e,h=>by
  obtain⟨k,d,B,z⟩:=a67 I e λy a=>h y (As _ a);obtain⟨j,g,c,b⟩:=h x Bw;obtain⟨v,o,i,t⟩:=d.cell x c b
  rcases d.freeC x c b with r|⟨_,f,u,p⟩
  ·have O:=bv4 d b j (d.ok.cab x c (.inr g) b) r i t;have A:G8 k (upd k c (.frz o Fz)):=λb u q=>by rw[j7 (z5 q r)];exact q
   refine⟨_,O,B.trans A,λy a=>?_⟩
   rcases AK.mp a with rfl|a
   ·exact⟨c,o,Fz,b,p8,aw3,i⟩
   ·obtain⟨J,f,F,N,M,L,K⟩:=z y a;exact⟨J,f,F,N,A _ _ M,L,K⟩
  ·refine⟨k,d,B,λy a=>?_⟩
   rcases AK.mp a with rfl|a
   ·obtain⟨D,C⟩:=d.hok c _ p;refine⟨c,f,u,b,p,λvs w=>?_,D⟩;subst w;obtain⟨_,G,n,_,m⟩:=C;rw[i]at m;cases m;cases t
   ·exact z y a
end
def az2{l}(h:EX l):l=[]\/∃i s j t v r,l=.int i s::.int j t::v::r/\EX r:=by
 unfold EX at h
 split at h
 ·exact .inl rfl
 ·exact .inr ⟨_,_,_,_,_,_,rfl,h⟩
 ·exact h.elim
theorem az1{a b}{s t}{c}:∀(n:Nat)(l:List AG),l.length<=n->EX l->EX (l++[.int a s,.int b t,c])
 |0,l,d,_=>by
  have:l=[]:=BD ⋯;subst this;exact trivial
 |n+1,l,d,h=>by
  rcases az2 h with rfl|⟨i,g,j,f,v,r,rfl,e⟩
  ·exact trivial
  ·simp only[AW]at d;exact(az1 n r ⋯ e)
theorem a05{d:Pos}{e:AG}{a b:Int}{s t:Tok}{c:AG}:∀(n:Nat)(l:List AG),l.length<=n->EX l->GE d (l++[.int a s,.int b t,c])=AA e->GE d l=AA e\/e=c
 |n,l,p,h,q=>by
  rcases az2 h with rfl|⟨i,x,j,w,v,r,rfl,u⟩
  ·have k:(if a==d.line&&b==d.col then AA c else AD)=AA e:=q
   split at k
   ·exact .inr (BA k).symm
   ·cases k
  ·cases n with
   |zero=>simp at p
   |succ n=>
    simp only[AW]at p;have f:(if i==d.line&&j==d.col then AA v else GE d (r++[.int a s,.int b t,c]))=AA e:=q;show(if i==d.line&&j==d.col then AA v else GE d r)=AA e\/e=c
    split at f
    ·rename_i g;rw[if_pos g];exact .inl f
    ·rename_i g;rw[if_neg g];exact a05 n r ⋯ u f
end Ek
namespace Ek
open PySem PySem.Spec PyProof.Rows L2
variable [Tbs]
abbrev M9(name qual:Str)(params:Cz)(fb:Dr)(scope:BS)(cl:List (Str×AH))(doc pm cv ct:AG):Bt:=
 {name,qualname:=qual,params,body:=fb,scope,globals:=AO,closure:=cl,defaults:=.none,kwdefaults:=.none,doc:=doc,pyModule:=pm,annotations:=AD,code:=cv,closureTuple:=ct,builtins:=DG}
abbrev Q5(fd:Bt):Obj:={cls:=.type "function",data:=.func fd}
abbrev X8(mg:Str->Option AG)(h:BI):Prop:=∃bm ob,mg "__builtins__"=AA (.ref bm)/\bm≠DG/\h.get? bm=AA ob/\ob.cls=.type "module"/\ob.dict=AA DG/\ob.data=.plain
structure LamOk(X:Cx):Prop where
 tab:∃c P,X.env.code=.ref c/\W.CodeHd X.base c P/\P∈Tbs.ps
 bm:X8 X.mg X.base
section
variable {X:Cx} {pins:List (AH×Obj)} {σ:L2.St} {H:Hp} {s:AJ} {st:Sto}
structure Made(X:Cx)(pins:List (AH×Obj))(σ:L2.St)(H:Hp)(st:Sto)(f:AH)(fd:Bt)(H':Hp)(s':AJ):Prop where
 inv:L2.Inv X pins σ H' s'
 tk:TK X.K H H'
 ev:Ev st H st H'
 rs:RelS X.K st H'
 fn:H' f=AA (.frz (Q5 fd) Fz)
 cd:Q7 H' fd.code
def bb1{fd}{h':BI}{tk}(I:L2.Inv X pins σ H s)(c:RelS X.K st H)(d:∀b o,s.heap.get? b=AA o->h'.get? b=AA o)(hsz:s.heap.objs.size<=h'.objs.size)(f:Q7 H fd.code):
  Made X pins σ H st h'.objs.size fd (upd H h'.objs.size (.frz (Q5 fd) Fz)) {s with heap:=h'.push (Q5 fd),toks:=tk}:=by
 have a:H h'.objs.size=AD:=I.hok.fresh hsz;exact⟨I.laid (λb o e=>AN _ (d b o e)) hsz (ai4 (Ai _ rfl)),TK.new a,Ev.new a,c.new a,p8,f.mono (K:=X.K) (TK.new a)⟩
def bc3{P f:AH}{ps:Array AG}{fd:Bt}{h':BI}{tk:Nat}{i j:Int}{M L:Tok}{q:Str}(I:L2.Inv X pins σ H s)(Y:RelS X.K st H)(p:H P=AA (.tbl ps))(V:TabOk H ps)
  (hx:FG P s.heap h') (U:s.heap.objs.size<=f) (D:f<h'.objs.size) (hr:h'.CodeRec (.ref f) q) (ht:h'.get? P=AA (Hk (ps++#[.int i M,.int j L,.ref f]))) (T:fd.code=.ref f) :
  ∃l,Made X pins σ H st h'.objs.size fd l {s with heap:=h'.push (Q5 fd),toks:=tk}:=by
 obtain⟨c2,N,g,t,e2,S,hd,hv⟩:=hr;cases e2;have B:s.heap.objs.size<=h'.objs.size:=Gp (Iv U D);have n1:H f=AD:=I.hok.fresh U;have n2:H h'.objs.size=AD:=I.hok.fresh B;have cf:f≠h'.objs.size:=BR D;have cP:P≠f:=λz=>by rw[z,n1]at p;cases p
 have fP:P≠h'.objs.size:=λz=>by rw[z,n2]at p;cases p
 let l:Hp:=upd (upd (upd H f (.frz N Fz)) h'.objs.size (.frz (Q5 fd) Fz)) P (.tbl (ps++#[.int i M,.int j L,.ref f]))
 have F:l P=AA (.tbl (ps++#[.int i M,.int j L,.ref f])):=p8;have gf:l h'.objs.size=AA (.frz (Q5 fd) Fz):=by show upd _ _ _ _=_;rw[j7 (BE fP)];exact p8
 have gc:l f=AA (.frz N Fz):=by show upd _ _ _ _=_;rw[j7 (BE cP),j7 cf];exact p8
 have W:∀b,b≠P->b≠h'.objs.size->b≠f->l b=H b:=λb y J G=>by show upd _ _ _ _=_;rw[j7 y,j7 J,j7 G]
 have h:∀b u,H b=AA u->b≠P->l b=AA u:=λb u e y=>by rw[W b y (z5 e n2) (z5 e n1)];exact e
 have m:∀b u,H b=AA u->(∀ps,u≠.tbl ps)->b≠P:=λb u e n z=>by rw[z,p]at e;cases e;exact n _ rfl
 have E:∀b o,b≠P->s.heap.get? b=AA o->(h'.push (Q5 fd)).get? b=AA o:=λb o n e=>AN _ (hx b o n e);have d:TK X.K H l:=⟨⟨λa xs z=>by
  rcases z with(z|⟨O,z⟩)|z
  ·exact .inl (.inl (h _ _ z (m _ _ z λ_=>nofun)))
  ·exact .inl (.inr ⟨O,h _ _ z (m _ _ z λ_=>nofun)⟩)
  ·exact .inr z,λa xs z=>h _ _ z (m _ _ z λ_=>nofun)⟩,λa o u z _=>h _ _ z (m _ _ z λ_=>nofun)⟩
 have CF:Q7 l (.ref f):=⟨f,N,Fz,g,q,t,rfl,gc,aw3,hd,hv⟩;refine⟨l,I.un (h':=h'.push (Q5 fd)) ⟨λb o e n _ _=>?_,λb o e n _ _=>?_,λb o e n _=>?_,λb o e _=>?_,λb xs e=>?_,λb o u e=>?_,λb Z e=>?_⟩ (λb u e=>?_),d,λa o e k=>?_,⟨λa o e=>?_,λP0 hP0=>?_⟩,gf,by rw[T];exact CF⟩
 ·exact E b o (λz=>by rw[z,p]at n;cases n) e
 ·exact⟨o.slots,E b o (λz=>by rw[z,p]at n;cases n) e⟩
 ·have lb:=Ax e;rw[W b (λz=>by rw[z,p]at n;cases n) (BR (Ar lb B)) (BR (Ar lb U))];exact n
 ·by_cases r:b=P
  ·subst r;exact⟨_,AN _ ht⟩
  ·exact⟨o,E b o r e⟩
 ·exact h _ _ e (m _ _ e λ_=>nofun)
 ·exact h _ _ e (m _ _ e λ_=>nofun)
 ·by_cases r:b=P
  ·subst r;rw[p]at e;cases e;exact⟨_,F⟩
  ·exact⟨#[],by rw[h _ _ e r];simp⟩
 ·by_cases y:b=P
  ·subst y;rw[F]at e;cases e;exact AN _ ht
  by_cases J:b=h'.objs.size
  ·subst J;rw[gf]at e;cases e;exact ai4 (Ai _ rfl)
  by_cases G:b=f
  ·subst G;rw[gc]at e;cases e;exact ai4 (AN _ S)
  rw[W b y J G]at e;refine(I.hok b u e).stay (λc v x z=>E c v ?_ z) (λa z=>h _ _ z (m _ _ z λ_=>nofun)) λa xs z=>h _ _ z (m _ _ z λ_=>nofun)
  rcases x with rfl|x
  ·exact y
  ·exact m _ _ x λ_=>nofun
 ·by_cases ha:a=P
  ·subst ha;rw[p]at e;cases e;exact⟨⟨_,F,.inr ⟨_,_,rfl,rfl⟩⟩,k⟩
  ·exact⟨⟨o,h _ _ e ha,.inl rfl⟩,k⟩
 ·have z:=Y.ob a o e;obtain⟨u,R,hn⟩:=bb6 z;have A:l a=H a:=by rw[R];exact h _ _ R (m _ _ R hn)
  cases o with
  |lst ds=>obtain⟨g,q,w⟩:=z;exact⟨g,by rw[A];exact q,w.mono d⟩
  |fro ds=>
   obtain⟨g,q|⟨O,q⟩,w⟩:=z
   ·exact⟨g,.inl (by rw[A];exact q),w.mono d⟩
   ·exact⟨g,.inr ⟨O,by rw[A];exact q⟩,w.mono d⟩
  |dct Q=>obtain⟨g,q,w⟩:=z;exact⟨g,by rw[A];exact q,w.mono d⟩
  |dtt Q=>obtain⟨g,q,w,t⟩:=z;exact⟨g,by rw[A];exact q,w.mono d,t⟩
  |ins c fs=>obtain⟨C,dx,g,q,n,w⟩:=z;exact⟨C,dx,g,by rw[A];exact q,n,w.mono d⟩
 ·by_cases r:P0=P
  ·subst r;refine⟨_,F,?_,λpos cv hcv=>?_⟩
   ·rw[FJ];exact az1 _ _ (Ab _) V.tr
   ·rw[FJ]at hcv
    rcases a05 _ _ (Ab _) V.tr hcv with z|z
    ·exact(V.co pos cv z).mono d
    ·rw[z];exact CF
  ·obtain⟨Z,e,o⟩:=Y.tb P0 hP0;exact⟨Z,h _ _ e r,o.tr,λpos cv hcv=>(o.co pos cv hcv).mono d⟩
def ch7{name qual}{params}{fb}{scope}{pos}{line}{cl}{Q}(I:L2.Inv X pins σ H s)(n:RelS X.K st H)(L:LamOk X)(i:IF scope X.env=pure cl)
  (h:∀f g N r ct D E,Made X pins σ H st f (M9 name qual params fb scope cl g N r ct) D E->Q (.ref f) E) :
  AR (model X.prog X.w) X.A (makeFunction name qual params fb scope X.env [] [] [] pos line) Q X.xe s:=by
 obtain⟨c,P,a,C,y⟩:=L.tab;obtain⟨F,B,k⟩:=n.tb P y;have d:s.heap.get? P=AA (Hk F):=I.hok P _ B;have m:=I.mod.glob.keeps I.bk;have p:AO≠P:=λz=>by
  obtain⟨o,R,S,e,u,_⟩:=m;rw[z,d]at e;cases e;cases u
 have v:s.heap.BuiltinsAt X.mg P:=by
  obtain⟨T,O,b1,Z,Y,V,U,J⟩:=L.bm;have t:=I.bk _ _ Y;refine⟨T,O,b1,Z,λz=>?_,λz=>?_,t,V,U,J⟩
  ·obtain⟨o,R,S,e,u,_⟩:=m;rw[<-z,t]at e;cases e;rw[J]at u;cases u
  ·lia
 have x:=C.keeps I.bk;cases hh:GE pos F.toList with
 |none=>
  cases fb with
  |stmts b=>
   refine W.makeFunction_K i I.ok.glob m a x d k.tr hh p v λc' ct g h' tk hx hc hlt hr ht=>?_;obtain⟨D,M⟩:=bc3 (fd:=M9 name qual params (.stmts b) scope cl g ((X.mg "__name__").getD .none) (.ref c') ct) I n B k hx hc hlt hr ht rfl;exact h _ _ _ _ _ _ _ M
  |expr b=>
   refine W.kla_makeFunction i I.ok.glob m a x d k.tr hh p v λc' ct h' tk hx hc hlt hr ht=>?_;obtain⟨D,M⟩:=bc3 (fd:=M9 name qual params (.expr b) scope cl .none ((X.mg "__name__").getD .none) (.ref c') ct) I n B k hx hc hlt hr ht rfl;exact h _ _ _ _ _ _ _ M
 |some r=>
  have G:=k.co pos r hh;cases fb with
  |stmts b=>
   refine W.makeFunction_hit i I.ok.glob m a x d k.tr hh v λct g h' tk hk hsz=>?_;exact h _ g ((X.mg "__name__").getD .none) r ct _ _ (bb1 I n hk hsz G)
  |expr b=>
   refine W.kla_makeFunctionHit i I.ok.glob m a x d k.tr hh v λct h' tk hk hsz=>?_;exact h _ .none ((X.mg "__name__").getD .none) r ct _ _ (bb1 I n hk hsz G)
end
end Ek
namespace Ek
open PySem PySem.Spec PyProof.Rows L2
variable [Tbs]
variable{params:Cz}{scope:BS}{pos:Pos}{np:Nat}{N ps:List Str}{cp:List Nat}{b:Ss}
theorem bc4{K:AQ}{H:Hp}{env:j8}{f:L2.St}(m:RelE K H env f):∀{e:List Nat}{c:List D},K9 env e=AA c ->
  ∃b:List V,IsDs K H c b/\b.length=e.length/\∀(i:Nat)v,b[i]?=AA v->∃j,e[i]?=AA j/\f[j]?=AA (AA v)
 |[],c,h=>by
  cases h;exact⟨[],.nil,rfl,λi v z=>by simp at z⟩
 |j::e,c,h=>by
  unfold K9 at h
  split at h
  ·rename_i d s q p;cases h;obtain⟨b,r,l,a⟩:=bc4 m p;obtain⟨v,o,n⟩:=m.at' j d q;refine⟨v::b,.cons n r,by simp[l],λi w z=>?_⟩;cases i with
   |zero=>simp at z;subst z;exact⟨j,rfl,o⟩
   |succ i=>exact a i w (by simpa using z)
  ·cases h
structure NestOk(X:Cx)(params:Cz)(fb:Dr)(scope:BS)(np:Nat)(N ps:List Str)(cp:List Nat)(b:Ss):Prop where
 sc:FnScC N ps scope
 lp:ps.length=np
 mt:Tbs.mt b scope N fb
 bind:∀(name qual:Str)(cl:List (Str×AH))(doc pm cv ct:AG)(us:List AG),us.length=ps.length->EG (M9 name qual params fb scope cl doc pm cv ct) ⟨us,[]⟩=pure (ps.zip us)
 cap:∀(i j:Nat),cp[i]?=AA j->∃x,X.N[j]?=AA x/\N[np+i]?=AA x/\(x,BF)∈scope.names
 fre:∀x,(x,BF)∈scope.names->(∃i:Nat,∃j:Nat,cp[i]?=AA j/\X.N[j]?=AA x)/\X.env.scope.names.lookup x=AA .cell/\X.fn x=AF/\X.ow x=AC
section
variable {X:Cx} {pins:List (AH×Obj)} {σ:L2.St} {H:Hp} {s:AJ} {st:Sto}
def bd4{name a:Str}{W:Dr}{p:Nat}{env:j8}{cs:List D}{Q:AG->AJ->Prop}
  (I:L2.Inv X pins σ H s) (rs:RelS X.K st H) (hE:RelE X.K H env σ) (L:LamOk X) (S:NestOk X params W scope np N ps cp b) (C:K9 env cp=AA cs)
  (h:∀f F s',L2.Inv X pins σ F s'->TK X.K H F->Ev st H st F->RelS X.K st F->IsD X.K F (.clo np N b cs) (.ref f)->Q (.ref f) s') :
  AR (model X.prog X.w) X.A (makeFunction name a params W scope X.env [] [] [] pos p) Q X.xe s:=by
 obtain⟨us,t,G,E⟩:=bc4 hE C
 let V:List Str:=(scope.names.filter λy=>y.2==.free).map (·.1)
 have e:∀x,x∈V↔(x,BF)∈scope.names:=λx=>by
  simp only[V,Aq,mem_filter,beq_iff_eq];constructor
  ·rintro⟨⟨y,k⟩,⟨U,h2⟩,rfl⟩;subst h2;exact U
  ·intro U;exact⟨(x,.free),⟨U,rfl⟩,rfl⟩
 have d:∀x,(x,BF)∈scope.names->∃c,X.env.cells.lookup x=AA c:=λx hx=>I.ok.has x (.inl (S.fre x hx).2.1);obtain⟨H1,I1,Y,f1⟩:=a67 I V λx hx=>⟨(S.fre x ((e x).mp hx)).2.2.1,(S.fre x ((e x).mp hx)).2.2.2,d x ((e x).mp hx)⟩;have T:IF scope X.env=pure (z9 X.env.cells scope.names []):=ap4 λy hy hk=>by
  obtain⟨y,k⟩:=y;subst hk;obtain⟨c,C⟩:=d y hy;simp only[C,FR]
 refine ch7 I1 (b38 rs Y) L T λf doc pm cv ct H2 s2 M=>?_;have tk:TK X.K H H2:=(bd9 Y).trans M.tk;have g:∀(j:Nat)x v,X.N[j]?=AA x->σ[j]?=AA (AA v)->(x,BF)∈scope.names->∃c o u w,(z9 X.env.cells scope.names []).lookup x=AA c/\H2 c=AA (.frz o u)/\(∀vs,u≠.lst vs)/\o.data=.cell (AA w)/\i8 v w:=λj x v hN O hx=>by
  obtain⟨m,hn,hl⟩:=I1.loc;obtain⟨w,r,l⟩:=hl j x v hN O (.inr (.inl (S.fre x hx).2.1));obtain⟨c,o,u,a1,a2,a3,a4⟩:=f1 x ((e x).mpr hx)
  rcases l with⟨k1,_⟩|⟨_,c2,l1,o2,l2,l3⟩
  ·have q:X.env.scope.names.lookup x=AA .local:=k1;rw[(S.fre x hx).2.1]at q;cases q
  ·rw[a1]at l1;cases l1;rw[a4]at l2;cases l2;exact⟨c,o,u,w,af8 a1 hx,M.tk.2 _ _ _ a2 a3,a3,l3,r⟩
 have n:∀x c,(z9 X.env.cells scope.names []).lookup x=AA c->X.env.cells.lookup x=AA c/\(x,BF)∈scope.names:=λx c hx=>O9 hx;refine h f H2 s2 M.inv tk ((b92 Y).trans M.ev) M.rs (.clo (us:=us) ⟨M9 name a params W scope (z9 X.env.cells scope.names []) doc pm cv ct,ps,⟨S.sc,S.lp,S.mt,S.bind name a _ doc pm cv ct,rfl,rfl,λx hx=>?_,λx c hx=>(n x c hx).2,λx y c hx hy=>I.ok.inj x y c (n x c hx).1 (n y c hy).1⟩,⟨⟨_,_,M.fn,aw3,rfl⟩,M.cd,λx c hx=>?_,λi v hv=>?_⟩⟩ (by rw[t.len]) (t.mono tk).at')
 ·obtain⟨c,C⟩:=d x hx;exact⟨c,af8 C hx⟩
 ·obtain⟨⟨i,j,hi,P⟩,_⟩:=S.fre x (n x c hx).2;have R:i<us.length:=by rw[G];exact(AX.mp hi).1
  obtain⟨j',B,J⟩:=E i _ (AM R);rw[hi]at B;cases B;obtain⟨c',o,u,w,b1,b2,b3,Z,b5⟩:=g j x _ P J (n x c hx).2;have z:(z9 X.env.cells scope.names []).lookup x=AA c:=hx;rw[b1]at z;cases z;exact⟨o,u,w,b2,b3,Z⟩
 ·obtain⟨j,P,O⟩:=E i v hv;obtain⟨x,n1,n2,n3⟩:=S.cap i j P;obtain⟨c,o,u,w,b1,b2,b3,Z,b5⟩:=g j x v n1 O n3;exact⟨x,c,o,u,w,n2,b1,b2,b3,Z,b5⟩
def cx8{body}(i:∀env,defaultsOf params env=([],[]))(L:LamOk X)(S:NestOk X params (.expr body) scope np N ps cp b):
  PE X (.Lambda params body scope pos) (up X.K λenv c Q=>∃d,K9 env cp=AA d/\Q (.clo np N b d) c):=by
 intro e s m H Q I q;obtain⟨env,c,n,l,k,⟨d,j,g⟩,h⟩:=q;exact W.kla_eval (i _) (bd4 I k l L S j λf H' s' I' tk ev rs is=>⟨.ref f,H',I',rfl,h _ _ H' c ev is rs g⟩)
def cp2{name}{body}{i}(o:X.N.Nodup)(hi:X.N[i]?=AA name)(h:Loc X.env.scope name)(l:X.fn name=AC\/X.env.scope.names.lookup name=AA .local)
  (t:params.defaults=[]) (r:params.kw_defaults=[]) (p:∀a,annTrees params AD a=[]) (L:LamOk X) (S:NestOk X params (.stmts body) scope np N ps cp b) :
  PS X (.FunctionDef name params body [] AD [] scope AD name pos) (upS X.K λF a c=>∃d,K9 a cp=AA d/\F.nx (a.set i (AA (.clo np N b d))) c):=by
 intro e s u H F I q;obtain⟨a,c,w,g,n,⟨d,m,j⟩,k⟩:=q;refine W.nestDef_K t r (p _) (bd4 I n g L S m λf H' s' I' tk ev rs is=>?_);exact af6 I' o hi h (v:=.ref f) rfl (λs2 I2=>⟨_,H',I2,k.nx _ _ H' c ev ((g.mono tk).set is i) rs j⟩) l
end
end Ek
namespace Ek
open PySem PySem.Spec PyProof.Rows L2
variable [Tbs]
variable{fd:Bt}{vs:List V}{N:List Str}{H:Hp}
abbrev b45(fb:Dr)(env:Env):Code:=match fb with
 |.stmts b=>.func b env
 |.expr e=>.expr e env
def b47{prog:Al}{w:Ay}{A:BW}{R:IC->AJ->Prop}{s:AJ}{a c:AH}{d:Args}{o r:Obj}{vs:Array AG}{q:Str}{t:Tok}(f:A.depth<ID)(y:s.heap.get? a=AA o)(n:o.data=.func fd)
  (p:fd.scope.isCoroutine=AF) (g:fd.scope.isGenerator=AF) (u:fd.code=.ref c) (k:s.heap.get? c=AA r) (l:r.data=.fields vs) (x:vs[1]?=AA (.str q t))
  (h:AR (model prog w) A.in1 (EG fd d) (λbinds s₁=>
   AR (model prog w) A.in1 (LM fd.scope fd.globals fd.closure binds (q++".<locals>.") (AA a) fd.code AD fd.builtins)
    (λenv s₂=>s₂.heap.NoLimit/\EC (model prog w) A (b45 fd.body env) R s₂) (λe s'=>R (.error e) s') s₁) (λe s'=>R (.error e) s') s) :
  EC (model prog w) A (.call (.ref a) d) R s:=by
 refine codeAny_of_tree ?_;show AR _ A.in1 (callAny (.ref a) d) _ _ s;refine AB (wpAny_load y ?_);simp only[n,callFunction,p,g,u];rw[u]at h;refine AB (m:=field (.ref c) 1) (Aw k l x (AB (AL ?_)));refine AB (Bq h (λbinds s₁ h₁=>AB (Bq h₁ (λenv s₂ h₂=>AB (wpAny_enterFrame h₂.1 f
  ?_)) λ_ _ h'=>h')) λ_ _ h'=>h')
 have i:=h₂.2;cases hb:fd.body with
 |stmts b=>rw[hb]at i;exact AL (And.intro rfl i)
 |expr e=>rw[hb]at i;exact AL (And.intro rfl i)
theorem a60{x:Str}{u:AG}:∀{a:List Str}{b:List AG}{i:Nat},a.Nodup->a[i]?=AA x->b[i]?=AA u->(a.zip b).reverse.lookup x=AA u
 |[],_,_,_,h,_=>by simp at h
 |_::_,[],_,_,_,h=>by simp at h
 |p::a,w::b,i,g,d,c=>by
  rw[DR,CM,List.lookup_append];cases i with
  |zero=>
   simp at d c;subst d c;have:(a.zip b).reverse.lookup p=AD:=by
    rw[List.lookup_eq_none_iff];intro y k;have:=(Gc (List.mem_reverse.mp k)).1;have j:p≠y.1:=λz=>(BU.mp g).1 (z▸this);simpa using j
   rw[this];simp[DM]
  |succ i=>
   rw[a60 (i:=i) (BU.mp g).2 (by simpa using d) (by simpa using c)];rfl
abbrev cxC(P:Al)(w:Ay)(K:AQ)(mg:Str->Option AG)(base:BI)(N:List Str)(scope:BS)(cl:List (Str×AH))(q:Str)(f:AH)(cd:AG)(A:BW)(outer:List Env)(s:AJ)(H:Hp):Cx where
 prog:=P
 w:=w
 K:=K
 mg:=mg
 base:=base
 A:=A.deeper (newEnv scope s.heap.objs.size AO cl (q++".<locals>.") (AA f) cd AD DG)
 N:=N
 s₀:=s
 H₀:=H
 env:=newEnv scope s.heap.objs.size AO cl (q++".<locals>.") (AA f) cd AD DG
 outer:=outer
 stack:=newEnv scope s.heap.objs.size AO cl (q++".<locals>.") (AA f) cd AD DG::outer
 ex:=[]
 calm:=AC
 fn:=λy=>!(scope.names.any λz=>z.1==y&&z.2==.free)
 pn:=[]
 xe:=λ_ _=>False
def bt9{P:Al}{w:Ay}{K:AQ}{X:Str->Option AG}{j:BI}{ps:List Str}{U:Nat}{b:Ss}{q:Str}{f:AH}{A:BW}{g:List Env}{s:AJ}{l:BI}{tk:Nat}{us:List AG}{d:List V}
  (B:CloF fd U N ps b) (R:CloR H f fd U N d) (hd:A.handled=AD) (k:Env0 P w K X j A g s H) (hl:vs.length=ps.length) (r:i6 vs us)
  (Y:l.Ns s.heap.objs.size (λx=>(ps.zip us).reverse.lookup x)) (hk:∀b o,s.heap.get? b=AA o->l.get? b=AA o) :
  Inv (cxC P w K X j N fd.scope fd.closure q f fd.code A g s H) [] (C2 N (vs++d)) H {s with heap:=l,toks:=tk}:=by
 have S:=B.sc;have t:∀b:AH,b∉(cxC P w K X j N fd.scope fd.closure q f fd.code A g s H).ex:=λb z=>absurd (show b∈([]:List AH) from z) ∎;have hpl:ps.length<=N.length:=by have:=congrArg CB S.pre;rw[DZ]at this;lia
 have hful:(vs++d).length<=N.length:=by
  rw[Ac,hl];cases hu:d.length with
  |zero=>lia
  |succ m=>
   have Z:m<d.length:=by lia
   obtain⟨x,_,_,_,_,L,_⟩:=R.at' m _ (AM Z);have:=(AX.mp L).1;have:=B.np;lia
 have G:∀x c,fd.closure.lookup x=AA c->(!(fd.scope.names.any λz=>z.1==x&&z.2==.free))=AF:=λx c h=>by
  have Z:=B.fre x c h;have:(fd.scope.names.any λz=>z.1==x&&z.2==.free)=AC:=Hf.mpr ⟨(x,.free),Z,∎⟩;rw[this];rfl
 have n:∀{c:AH}{o:Obj}{u:HO},H c=AA (.frz o u)->l.get? c=AA o:=λ{c o u}e=>by
  obtain⟨z,_⟩:=k.hok c _ e;exact hk _ _ z
 refine⟨⟨k.mod,S.kind,rfl,rfl,Ab _,λy z c l h2=>B.inj y z c l h2,λy E=>?_,λy c h hc=>?_,λ_=>hd,Ho k.frames,.inr ⟨rfl,rfl⟩,λb z=>absurd z (t b),k.bs,k.bsz,λb _ _=>t b,λb z=>absurd z (t b),k.funs,k.frf⟩,
  rfl,k.bare,Un.kept hk,⟨_,Y,λi y v l h2 h3=>?_⟩,λy c h=>?_,k.hok.fresh (Ab _),λy c h=>?_,λp M=>absurd (show p ∈ ([]:List (AH × Obj)) from M) ∎,k.hok.kept hk,?_⟩
 ·rcases E with E|E
  ·exact absurd rfl (S.nocell _ (PySem.mem_of_lookup E))
  ·exact B.has y (PySem.mem_of_lookup E)
 ·have hc':fd.closure.lookup y=AA c:=hc
  rcases h with h|h
  ·have h':(!(fd.scope.names.any λz=>z.1==y&&z.2==.free))=AC:=h;rw[G y c hc']at h';cases h'
  ·cases h
 ·have O:i<(vs++d).length:=by
   unfold L2.C2 at h2
   by_cases O:i<(vs++d).length
   ·exact O
   ·rw[Au (by simpa using O)]at h2;rw[DX]at h2
    split at h2<;>cases h2
  have Q:(vs++d)[i]?=AA v:=by
   unfold L2.C2 at h2;rw[Ag (by simpa using O),Aj]at h2;cases e:(vs++d)[i]? with
   |none=>rw[e]at h2;cases h2
   |some a=>rw[e]at h2;cases h2;rfl
  have F:N[i]?=AA y:=l
  by_cases hv:i<vs.length
  ·rw[Ag hv]at Q;obtain⟨u,hu,rv⟩:=r.get Q;have M:ps[i]?=AA y:=by
    rw[<-S.pre,HW ⋯];exact F
   have W:ps.Nodup:=by rw[<-S.pre];exact S.nd.sublist (Il _ _)
   exact⟨u,rv,.inl ⟨S.par y (At M),a60 W M hu⟩⟩
  ·rw[Au ⋯]at Q;obtain⟨x,c,C,T,I,L,n2,D,n4,J,n6⟩:=R.at' _ v Q;have e:U+(i-vs.length)=i:=by have:=B.np;lia
   rw[e,F]at L;cases L;exact⟨I,n6,.inr ⟨.inr (S.fre _ (B.fre y c n2) rfl),c,n2,C,n D,J⟩⟩
 ·obtain⟨C,T,I,D,n4,J⟩:=R.cl y c h;exact⟨AA I,C,n D,J⟩
 ·obtain⟨C,T,I,D,n4,J⟩:=R.cl y c h;exact .inr ⟨G y c h,C,T,D⟩
 ·unfold L2.C2;show _=N.length;rw[Ac,AT,Ez];lia
abbrev ct5(X:Cx)(fb:Dr)(Z:Sg)(b:Ss):Prop:=match fb with
 |.stmts l=>PSs X l (upS X.K (l5 Z b))
 |.expr x=>∃e,b=.cons (.ret e) .nil/\PE X x (up X.K (wpE Z e))
def a01{K:AQ}{ds:List D}(r:IsDs K H ds vs):RelE K H (ds.map AA++BP (N.length-ds.length) AD) (L2.C2 N vs):=by
 refine⟨by simp[L2.C2,r.len],λi x h=>?_⟩;unfold L2.C2
 by_cases a:i<ds.length
 ·rw[Ag (by simpa using a),Aj,AM a]at h;simp only[GZ,Cf]at h;obtain⟨v,b,c⟩:=r.get (AM a);refine⟨v,?_,by simp_all⟩;rw[Ag (by rw[AT,<-r.len];exact a),Aj,b];rfl
 ·rw[Au (by simpa using a),DX]at h
  split at h<;>cases h
def bv7{K:AQ}{ds a:List D}{us:List V}(r:IsDs K H ds vs)(b:IsDs K H a us):RelE K H (Q2 N ds a) (L2.C2 N (vs++us)):=a01 (r.append b)
def cu6{P:Al}{w:Ay}{K:AQ}{mg:Str->Option AG}{h:BI}{n np:Nat}{L:AH}{ps:List Str}{b:Ss}{M:List D}{Z:Sg}(O:CloF fd np N ps b)
  (B:∀(q:Str)(A:BW)(f:List Env)(s:AJ)(H:Hp),Room n (cxC P w K mg h N fd.scope fd.closure q L fd.code A f s H).A->ct5 (cxC P w K mg h N fd.scope fd.closure q L fd.code A f s H) fd.body Z b) :
  FnOk P w K mg h CX0 (n+1) L fd ps (ad0 K L fd np N M λds m Q=>ds.length=np/\l5 Z b {nx:=λ_ a=>∃j,Sub j a/\Q .non j,rt:=λd a=>∃j,Sub j a/\Q d j} (Q2 N ds M) m):=by
 refine⟨λvs H Q E hsp=>?_,λA f s H args us vs Q E hr e0 hb r hsp=>?_⟩
 ·obtain⟨R,ds,m,Qd,cr,U,is,rs,i,hq⟩:=hsp;rw[<-is.len,i.1,O.np]
 ·obtain⟨R,ds,m,Qd,cr,U,is,rs,⟨Y,i⟩,hq⟩:=hsp;have S:=O.sc;have hl:vs.length=ps.length:=by rw[<-is.len,Y,O.np]
  have lim:s.heap.NoLimit:=e0.mod.nolimit.keeps λb o e=>(e0.bs b o e).1;obtain⟨o,u,f1,f2,f3⟩:=cr.ex;obtain⟨c,oc,uc,vc,q,t,c1,c2,c3,c4,c5⟩:=cr.cd;obtain⟨ho,_⟩:=e0.hok L _ f1;obtain⟨hoc,_⟩:=e0.hok c _ c2;have X:∀y∈ps.zip us,fd.scope.names.lookup y.1=AA .local:=λ⟨x,v⟩hy=>S.par x (Gc hy).1;refine b47 hr.depth ho f3 S.co S.gen c1 hoc c4 c5 (hb _ _ _ _ ?_);rw[O.gl,O.bl];refine JQ S.nocell X (λh1 hns hsb=>?_) S.kind;have hk:∀b o,s.heap.get? b=AA o->h1.get? b=AA o:=λb o e=>hsb.extBut b o (BR (Ax e)) (AN _ e);refine⟨lim.keeps hk,?_⟩;have I:=bt9 (q:=q) (tk:=s.toks+(ps.zip us).length) O cr hr.hd e0 hl r hns hk;have G:=B q A f s H (hr.deeper _);have F:RelE K H (Q2 N ds M) (C2 N (vs++R)):=bv7 is U;have C:∀{k:L2.St}{g:Hp}{v:V}{u:AG}{p:AJ},Inv (cxC P w K mg h N fd.scope fd.closure q L fd.code A f s H) [] k g p->i8 v u->Q v g->CE f P w H s Q u p:=
   λ{k g v u p}J T q=>⟨v,g,J.os,J.bare,J.base,J.hok,T,q⟩
  have rt:∀v d g a,Ev m H a g->IsD K g d v->RelS K a g->(∃j,Sub j a/\Qd d j)->Q v g:=λv d g a ev is' rs'⟨j,sub,q⟩=>hq v d g j (ev.drop sub) is' (rs'.sub sub) q;cases hfb:fd.body with
  |stmts l=>
   rw[hfb]at G;refine codeAny_func (Bq (G [] _ _ H {nx:=λ_ g=>Q .non g,rt:=Q} I ⟨Q2 N ds M,m,_,F,rs,i,λenv σ g a ev F hS q=>rt _ .non g a ev .non hS q,λenv σ g a ev F hS q=>q.elim,λenv σ g a ev F hS q=>q.elim,λv e g a ev is' rs' q=>rt v e g a ev is' rs' q⟩) (λfl p i=>?_) λe p z=>z.elim);cases fl with
   |ret u=>
    obtain⟨v,k,g,J,T,q⟩:=i;exact C J T q
   |next=>
    obtain⟨k,g,J,q⟩:=i;exact C (v:=V.non) (u:=Bz) J rfl q
   |brk=>
    obtain⟨_,_,_,q⟩:=i;exact AU q
   |cont=>
    obtain⟨_,_,_,q⟩:=i;exact AU q
  |expr x=>
   rw[hfb]at G;obtain⟨e,rfl,G⟩:=G;refine W.kla_codeExpr (Bq (G [] _ _ H Q I ⟨Q2 N ds M,m,_,F,rs,(show wpE Z e (Q2 N ds M) m _ from i),λv d g a ev is' rs' q=>rt v d g a ev is' rs' q⟩) (λu p i=>?_) λe p z=>z.elim);obtain⟨v,g,J,T,q⟩:=i;exact C J T q
end Ek
namespace Ek
open PySem PySem.Spec PyProof.Rows L2
variable [Tbs]
variable{x:AS}{C:AS->Prop}{g m:Str}{sc:BS}
abbrev ab0:List Str:=["len","abs","int","sum","list","tuple","isinstance","max","range","enumerate","reversed","str","bool","min","sorted","zip","any","dict"]
abbrev isM(f:Str):Bool:=f.cps.contains 46
structure FOk(X:Cx)(f:Str)(sp:Spec):Prop where
 ex:∃k a fd ps,FnOk X.prog X.w X.K X.mg X.base CX0 k a fd ps (C8 X.K sp)/\Room k X.A/\X.mg f=AA (.ref a)/\CI X.K (.ref a)=AC/\y0 X.K fd ps []/\BJ X.K AO f=AA (AA (.ref a))
abbrev t9:Str:=⟨#[33]⟩
abbrev B6(x:Str):Str:=⟨#[33]++x.cps⟩
abbrev V6(p:Cz):Option (List Str):=if p.posonlyargs.isEmpty&&p.vararg.isNone&&p.kwonlyargs.isEmpty&&p.kw_defaults.isEmpty&&p.kwarg.isNone&&p.defaults.isEmpty&&p.args.all (·.annotation.isNone)&&AE (p.args.map (·.arg)).Nodup&&!p.args.isEmpty&&AE (p.args.length<=3)then AA (p.args.map (·.arg))else AD
abbrev ai9(sc:BS)(N:List Str)(scope:BS)(Nl ps:List Str)(np:Nat)(cp:List Nat):Bool:=
 (ps.length==np)&&(scope.kind==.function)&&!scope.isCoroutine&&!scope.isGenerator&&decide Nl.Nodup&&(Nl.take ps.length==ps)&&ps.all (λx=>scope.names.lookup x==AA .local)&&scope.names.all (λy=>!(y.2==.cell))&&
 scope.names.all (λy=>!(y.2==.free)||(scope.names.lookup y.1==AA .free&&sc.names.lookup y.1==AA .cell&&N.contains (B6 y.1)&&(Dj cp.length).any λi=>match cp[i]? with|some j=>N[j]?==AA y.1|none=>AF))&&
 (Dj cp.length).all (λi=>match cp[i]? with|some j=>(match N[j]? with|some x=>(Nl[np+i]?==AA x)&&scope.names.any (λz=>z.1==x&&z.2==.free)|none=>AF)|none=>AF)
abbrev glb(sc:BS)(f:Str):Bool:=sc.names.lookup f==AA .globalImplicit
abbrev aj3(sc:BS)(x:Str):Bool:=match sc.names.lookup x with
 |some .local=>AC|some .cell=>AC|some .free=>AC|_=>AF
abbrev R3(sc:BS)(x:Str):Bool:=match sc.names.lookup x with
 |some .local=>AC|some .cell=>AC|_=>AF
abbrev lcl(sc:BS)(x:Str):Bool:=sc.names.lookup x==AA .local
abbrev okN(x:Str):Bool:=!(x==("__debug__":Str))&&!(x==("__classdict__":Str))
abbrev bj6(x:AS):Bool:=!([22,26,7].contains x.ctorIdx)
abbrev E8(x:AS):Bool:=!(x.ctorIdx==5)
abbrev T7(x:AS):Bool:=!([8,9,10].contains x.ctorIdx)
abbrev ay1(scope sc:BS):BS:=
 {scope with names:=scope.names.map λ(n,k)=>if(k==.free&&sc.kind==.function&&sc.names.lookup n==AA .cell)then(n,.cell)else(n,k)}
abbrev ac4(sc scope:BS)(N Nc:List Str)(fr:List Nat)(k:Nat):Bool:=
 (scope.kind==.function)&&scope.names.all (λy=>!(y.2==.cell))&&scope.names.all (λy=>!(y.2==.local)||scope.names.lookup y.1==AA .local)&&
 scope.names.all (λy=>!(y.2==.free)||sc.names.lookup y.1==AA .cell||sc.names.lookup y.1==AA .free)&&scope.names.all (λy=>!(y.2==.free)||!(scope.names.any λz=>z.1==y.1&&z.2==.local))&&
 decide Nc.Nodup&&!(Nc.contains t9)&&(Nc.length==fr.length+k)&&((Dj fr.length).all λi=>match Nc[i]?,fr[i]? with
  |some x,AA j=>(N[j]?==AA x)&&scope.names.any (λz=>z.1==x&&z.2==.free)|_,_=>AF)
def an{a b:Bool}(h:(a&&b)=AC):a=AC/\b=AC:=IL.1 h
def nt{b}(h:(!b)=AC):b=AF:=by grind
def dE{p}[Decidable p]{f:p->Bool}{C:Prop}(h:(if h:p then f h else AF)=AC)(H:∀e,f e=AC->C):C:=by
 lia
abbrev xBo(x:AS)(k:LV->List AS->Pos->Bool):Bool:=if h:x.ctorIdx=0 then FK x h k else AF
def bp2{k}(h:xBo x k=AC)(H:∀o l p,k o l p=AC->C (.BoolOp o l p)):C x:=
 dE h λe=>FK x e (λo l p _=>H o l p) e
abbrev xBi(x:AS)(k:AS->Ey->AS->Pos->Bool):Bool:=if h:x.ctorIdx=2 then Fg x h k else AF
def df2{k}(h:xBi x k=AC)(H:∀a o b p,k a o b p=AC->C (.BinOp a o b p)):C x:=
 dE h λe=>Fg x e (λa o b p _=>H a o b p) e
abbrev xU(x:AS)(k:UnaryOp->AS->Pos->Bool):Bool:=if h:x.ctorIdx=3 then Et x h k else AF
def xU_{k}(h:xU x k=AC)(H:∀o a p,k o a p=AC->C (.UnaryOp o a p)):C x:=
 dE h λe=>Et x e (λo a p _=>H o a p) e
abbrev xLa(x:AS)(k:Cz->AS->BS->Pos->Bool):Bool:=if h:x.ctorIdx=4 then FL x h k else AF
def dd0{k:Cz->AS->BS->Pos->Bool}(h:xLa x k=AC)(H:∀a b s p,k a b s p=AC->C (.Lambda a b s p)):C x:=
 dE h λe=>FL (motive_1:=λx=>∀e,FL x e k=AC->C x) x e (λa b s p _ h=>H a b s p h) e
abbrev xIf(x:AS)(k:AS->AS->AS->Pos->Bool):Bool:=if h:x.ctorIdx=5 then Fh x h k else AF
def dg5{k}(h:xIf x k=AC)(H:∀a b c p,k a b c p=AC->C (.IfExp a b c p)):C x:=
 dE h λe=>Fh x e (λa b c p _=>H a b c p) e
abbrev xD(x:AS)(k:List (Option AS)->List AS->Pos->Bool):Bool:=if h:x.ctorIdx=6 then GQ x h k else AF
def xD_{k}(h:xD x k=AC)(H:∀a b p,k a b p=AC->C (.Dict a b p)):C x:=
 dE h λe=>GQ x e (λa b p _=>H a b p) e
abbrev xLC(x:AS)(k:AS->List IY->BS->Pos->Bool):Bool:=if h:x.ctorIdx=8 then Eh x h k else AF
def dd9{k}(h:xLC x k=AC)(H:∀a g s p,k a g s p=AC->C (.ListComp a g s p)):C x:=
 dE h λe=>Eh x e (λa g s p _=>H a g s p) e
abbrev xCm(x:AS)(k:AS->List Dw->List AS->Pos->Bool):Bool:=if h:x.ctorIdx=15 then Eu x h k else AF
def dg7{k}(h:xCm x k=AC)(H:∀a o b p,k a o b p=AC->C (.Compare a o b p)):C x:=
 dE h λe=>Eu x e (λa o b p _=>H a o b p) e
abbrev xCa(x:AS)(k:AS->List AS->List Hq->Pos->Bool):Bool:=if h:x.ctorIdx=16 then GR x h k else AF
def de0{k}(h:xCa x k=AC)(H:∀f a w p,k f a w p=AC->C (.Call f a w p)):C x:=
 dE h λe=>GR x e (λf a w p _=>H f a w p) e
abbrev xK(x:AS)(k:Const->Nat->Pos->Bool):Bool:=if h:x.ctorIdx=19 then Ei x h k else AF
def xK_{k}(h:xK x k=AC)(H:∀c n p,k c n p=AC->C (.Constant c n p)):C x:=
 dE h λe=>Ei x e (λc n p _=>H c n p) e
abbrev xA(x:AS)(k:AS->Str->Pos->Bool):Bool:=if h:x.ctorIdx=20 then EY x h k else AF
def xA_{k}(h:xA x k=AC)(H:∀a f p,k a f p=AC->C (.Attribute a f p)):C x:=
 dE h λe=>EY x e (λa f p _=>H a f p) e
abbrev xS(x:AS)(k:AS->AS->Pos->Bool):Bool:=if h:x.ctorIdx=21 then EZ x h k else AF
def xS_{k:AS->AS->Pos->Bool}(h:xS x k=AC)(H:∀a b p,k a b p=AC->C (.Subscript a b p)):C x:=
 dE h λe=>EZ (motive_1:=λx=>∀e,EZ x e k=AC->C x) x e (λa b p _ h=>H a b p h) e
abbrev xN(x:AS)(k:Str->Pos->Bool):Bool:=if h:x.ctorIdx=23 then GS x h k else AF
def xN_{k}(h:xN x k=AC)(H:∀y p,k y p=AC->C (.Name y p)):C x:=
 dE h λe=>GS x e (λy p _=>H y p) e
abbrev xL(x:AS)(k:List AS->Pos->Bool):Bool:=if h:x.ctorIdx=24 then GT x h k else AF
def xL_{k}(h:xL x k=AC)(H:∀l p,k l p=AC->C (.List l p)):C x:=
 dE h λe=>GT x e (λl p _=>H l p) e
abbrev xT(x:AS)(k:List AS->Nat->Pos->Bool):Bool:=if h:x.ctorIdx=25 then Fi x h k else AF
def xT_{k}(h:xT x k=AC)(H:∀l n p,k l n p=AC->C (.Tuple l n p)):C x:=
 dE h λe=>Fi x e (λl n p _=>H l n p) e
abbrev xSl(x:AS)(k:Option AS->Option AS->Option AS->Pos->Bool):Bool:=if h:x.ctorIdx=26 then Fj x h k else AF
def dh3{k}(h:xSl x k=AC)(H:∀l u s p,k l u s p=AC->C (.Slice l u s p)):C x:=
 dE h λe=>Fj x e (λl u s p _=>H l u s p) e
abbrev l1{α:Type}(l:List α)(k:α->Bool):Bool:=EE (motive:=λ_=>Bool) l AF λp r=>r.isEmpty&&k p
def l1_{α}{l}{k}{C:List α->Prop}(h:l1 l k=AC)(H:∀p,k p=AC->C [p]):C l:=
 match l,h with
 |[p],h=>H p h
abbrev l2{α:Type}(l:List α)(k:α->α->Bool):Bool:=EE (motive:=λ_=>Bool) l AF λp r=>l1 r (k p)
def l2_{α}{l}{k}{C:List α->Prop}(h:l2 l k=AC)(H:∀p q,k p q=AC->C [p,q]):C l:=
 match l,h with
 |p::r,h=>l1_ (C:=λr=>C (p::r)) h λq=>H p q
abbrev lb(l:List AS)(k:AS->AS->Bool)(m:AS->List AS->Bool):Bool:=EE (motive:=λ_=>Bool) l AF λp r=>if r.length=1 then l1 r (k p)else AE (2<=r.length)&&m p r
abbrev xKc(x:AS)(c:Const):Bool:=xK x λd _ _=>d==c
def U4{c}(h:xKc x c=AC)(H:∀n p,C (.Constant c n p)):=
 xK_ h λd n p e=>beq_iff_eq.1 e▸H n p
abbrev Y5(x:AS)(g:Str):Bool:=xN x λy _=>y==g
def ac7(h:Y5 x g=AC)(H:∀p,C (.Name g p)):C x:=
 xN_ h λy p e=>(beq_iff_eq.1 e)▸H p
abbrev xCl(x:AS)(k:AS->List AS->Pos->Bool):Bool:=xCa x λf a w p=>w.isEmpty&&k f a p
def aj7{k}(h:xCl x k=AC)(H:∀f a p,k f a p=AC->C (.Call f a [] p)):C x:=
 de0 h λf a w p h=>by
  simp_all
abbrev Q4(x:AS):Bool:=!(xCl x λf a _=>a.isEmpty&&xN f λ_ _=>AC)
abbrev xG(g:Str)(sc:BS)(x:AS)(k:List AS->Bool):Bool:=xCl x λf a _=>Y5 f g&&(glb sc g&&k a)
def xG_{k}{C:AS->Prop}(h:xG g sc x k=AC)(H:∀q a p,glb sc g=AC->k a=AC->C (.Call (.Name g q) a [] p)):=
 aj7 h λf a p h=>ac7 (C:=λf=>C (.Call f a [] p)) (an h).1 λq=>H q a p (an (an h).2).1 (an (an h).2).2
abbrev xC1(g:Str)(sc:BS)(x:AS)(k:AS->Bool):Bool:=xG g sc x λa=>l1 a k
def K6{k}{C:AS->Prop}(h:xC1 g sc x k=AC)(H:∀q a p,glb sc g=AC->k a=AC->C (.Call (.Name g q) [a] [] p)):=
 xG_ h λq a p h1 h=>l1_ (C:=λa=>C (.Call (.Name g q) a [] p)) h λa=>H q a p h1
abbrev xC2(g:Str)(sc:BS)(x:AS)(k:AS->AS->Bool):Bool:=xG g sc x λa=>l2 a k
def aj5{k}{C:AS->Prop}(h:xC2 g sc x k=AC)(H:∀q a b p,glb sc g=AC->k a b=AC->C (.Call (.Name g q) [a,b] [] p)):=
 xG_ h λq a p h1 h=>l2_ (C:=λa=>C (.Call (.Name g q) a [] p)) h λa b=>H q a b p h1
abbrev xM(m:Str)(x:AS)(k:AS->List AS->Bool):Bool:=xCl x λf a cp=>xA f λo n ap=>(n==m)&&((ap.endLine==cp.line)&&k o a)
def xM_{k}{C:AS->Prop}(h:xM m x k=AC)(H:∀o c a b,(c.endLine==b.line)=AC->k o a=AC->C (.Call (.Attribute o m c) a [] b)):=
 aj7 h λf a b h=>xA_ (C:=λf=>C (.Call f a [] b)) h λo n c h=>(beq_iff_eq.1 (an h).1)▸H o c a b (an (an h).2).1 (an (an h).2).2
abbrev xM0(m:Str)(x:AS)(k:AS->Bool):Bool:=xM m x λo a=>a.isEmpty&&(Q4 o&&k o)
def bo6{k}(h:xM0 m x k=AC)(H:∀o c b,(c.endLine==b.line)=AC->Q4 o=AC->k o=AC->C (.Call (.Attribute o m c) [] [] b)):=
 xM_ h λo c a b e h=>by
  cases a with
  |nil=>exact H o c b e (an (an h).2).1 (an (an h).2).2
  |cons=>exact(AI h).elim
abbrev xM1(m:Str)(x:AS)(k j:AS->Bool):Bool:=xM m x λo a=>l1 a λp=>Q4 o&&(k o&&j p)
def ae2{k j}{C:AS->Prop}(h:xM1 m x k j=AC)(H:∀o c p b,(c.endLine==b.line)=AC->Q4 o=AC->k o=AC->j p=AC->C (.Call (.Attribute o m c) [p] [] b)):=
 xM_ h λo c a b e h=>l1_ (C:=λa=>C (.Call (.Attribute o m c) a [] b)) h λp h=>H o c p b e (an h).1 (an (an h).2).1 (an (an h).2).2
abbrev xCo(x:AS)(k:Dw->AS->AS->Bool):Bool:=xCm x λa o b _=>l1 o λo=>l1 b λb=>k o a b
def Y9{k:Dw->AS->AS->Bool}{C:AS->Prop}(h:xCo x k=AC)(H:∀o a b p,k o a b=AC->C (.Compare a [o] [b] p)):C x:=
 dg7 h λa o b p h=>l1_ (C:=λo=>C (.Compare a o b p)) h λo h=>l1_ (C:=λb=>C (.Compare a [o] b p)) h λb=>H o a b p
abbrev mTg(ow:Bool)(t:Tg)(sc:BS)(N:List Str)(x:AS):Bool:=match t with
 |.n i=>xN x λy _=>(N[i]?==AA y)&&R3 sc y&&((ow&&!(N.contains (B6 y)))||lcl sc y)
 |.tup is=>xT x λes _ _=>(is.length==es.length)&&((is.zip es).all λp=>xN p.2 λy _=>(N[p.1]?==AA y)&&R3 sc y&&((ow&&!(N.contains (B6 y)))||lcl sc y))
abbrev mKs:List Str->List (Option AS)->Bool
 |[],l=>l.isEmpty
 |k::ks,l=>EE (motive:=λ_=>Bool) l AF λx r=>Gk (motive:=λ_=>Bool) x AF λx=>xKc x (.str k)&&mKs ks r
abbrev oE(lo:E)(m:AS->Bool)(l:Option AS):Bool:=Gk (motive:=λ_=>Bool) l lo.isNon λl=>!lo.isNon&&m l
abbrev cE(c:E)(m:AS->Bool)(l:List AS):Bool:=if l.isEmpty then c.isNon else l1 l λx=>!c.isNon&&(E8 x&&m x)
abbrev ay5(ks:List Str)(vs:Es):Bool:=(ks.length==vs.len)&&(decide ks.Nodup&&(AE (ks.length<=15)&&!ks.isEmpty))
mutual
noncomputable def mE:E->BS->List Str->AS->Bool
 |.non,_,_,x=>xKc x .none
 |.bl b,_,_,x=>xKc x (.bool b)
 |.int i,_,_,x=>xKc x (.int i)
 |.str y,_,_,x=>xKc x (.str y)
 |.v i,sc,N,x=>xN x λy _=>(N[i]?==AA y)&&(aj3 sc y&&okN y)
 |.tup es,sc,N,x=>xT x λxs _ _=>mEs es sc N xs&&AE (es.len<=1000)
 |.lst es,sc,N,x=>xL x λxs _=>mEs es sc N xs&&AE (es.len<=1000)
 |.bin o a b,sc,N,x=>xBi x λp q r _=>(q==o)&&(mE a sc N p&&mE b sc N r)
 |.neg a,sc,N,x=>xU x λo p _=>(o==.USub)&&mE a sc N p
 |.cmp o a b,sc,N,x=>xCo x λq p r=>(q==o)&&(mE a sc N p&&mE b sc N r)
 |.isN a,sc,N,x=>xCo x λq p r=>(q==.Is)&&(xKc r .none&&mE a sc N p)
 |.notN a,sc,N,x=>xCo x λq p r=>(q==.IsNot)&&(xKc r .none&&mE a sc N p)
 |.and a b,sc,N,x=>xBo x λo l ps=>(o==.And)&&lb l (λp q=>mE a sc N p&&mE b sc N q&&E8 p&&E8 q) (λp r=>mE a sc N p&&mE b sc N (.BoolOp .And r ps)&&E8 p)
 |.or a b,sc,N,x=>xBo x λo l ps=>(o==.Or)&&lb l (λp q=>mE a sc N p&&mE b sc N q&&E8 p&&E8 q) (λp r=>mE a sc N p&&mE b sc N (.BoolOp .Or r ps)&&E8 p)
 |.not a,sc,N,x=>xU x λo p _=>(o==.Not)&&(mE a sc N p&&E8 p)
 |.ite c a b,sc,N,x=>xIf x λp q r _=>(mE c sc N p&&E8 p)&&(mE a sc N q&&mE b sc N r)
 |.ix a b,sc,N,x=>xS x λp q _=>mE a sc N p&&mE b sc N q
 |.sl a lo hi,sc,N,x=>xS x λp s _=>mE a sc N p&&xSl s λl h st _=>st.isNone&&(oE lo (mE lo sc N) l&&oE hi (mE hi sc N) h)
 |.dsel ks vs k,sc,N,x=>xS x λd q _=>mE k sc N q&&xD d λkeys xs _=>mKs ks keys&&(mEs vs sc N xs&&ay5 ks vs)
 |.gget g k d,sc,N,x=>xM "get" x λo a=>Y5 o g&&(glb sc g&&(okN g&&l2 a λp q=>mE k sc N p&&mE d sc N q))
 |.gsel g k,sc,N,x=>xS x λn q _=>Y5 n g&&(glb sc g&&(okN g&&mE k sc N q))
 |.len a,sc,N,x=>xC1 "len" sc x (mE a sc N)
 |.toInt a,sc,N,x=>xC1 "int" sc x (mE a sc N)
 |.list a,sc,N,x=>xC1 "list" sc x (mE a sc N)
 |.tuple a,sc,N,x=>xC1 "tuple" sc x (mE a sc N)
 |.max a b,sc,N,x=>xC2 "max" sc x λp q=>mE a sc N p&&mE b sc N q
 |.min a b,sc,N,x=>xC2 "min" sc x λp q=>mE a sc N p&&mE b sc N q
 |.call f es,sc,N,x=>xG f sc x λl=>okN f&&(!isM f&&(!l.isEmpty&&mEs es sc N l))
 |.gf f,sc,_,x=>Y5 x f&&(glb sc f&&(okN f&&!isM f))
 |.callx c es,sc,N,x=>xCl x λf l _=>xS f (λp q s=>mE c sc N (.Subscript p q s))&&(!l.isEmpty&&mEs es sc N l)
 |.callv i es,sc,N,x=>xCl x λf l _=>xN f (λy _=>(N[i]?==AA y)&&(aj3 sc y&&okN y))&&(!l.isEmpty&&mEs es sc N l)
 |.dict ks vs,sc,N,x=>xD x λkeys xs _=>mKs ks keys&&(mEs vs sc N xs&&ay5 ks vs)
 |.cmpl ne a b,sc,N,x=>xCo x λq p r=>(q==(if ne then CmpOp.NotEq else .Eq))&&(mE a sc N p&&mE b sc N r)
 |.fld a f,sc,N,x=>xA x λo g _=>(g==f)&&(Q4 o&&mE a sc N o)
 |.methd a m es,sc,N,x=>xM m x λo l=>(Q4 o&&mE a sc N o)&&(!l.isEmpty&&(mEs es sc N l&&AE (l.length<29)))
 |.meth a m es,sc,N,x=>xM m x λo l=>(Q4 o&&mE a sc N o)&&(mEs es sc N l&&AE (l.length<29))
 |.make c es,sc,N,x=>xG c sc x λl=>okN c&&mEs es sc N l
 |.app a b,sc,N,x=>xM1 "append" x (mE a sc N) (mE b sc N)
 |.ext a b,sc,N,x=>xM1 "extend" x (mE a sc N) (mE b sc N)
 |.popAt a b,sc,N,x=>xM1 "pop" x (mE a sc N) (mE b sc N)
 |.pop a,sc,N,x=>xM0 "pop" x (mE a sc N)
 |.inl a b,sc,N,x=>xCo x λq p r=>(q==.In)&&(mE a sc N p&&mE b sc N r)
 |.dnt,sc,N,x=>xD x λl r _=>l.isEmpty&&r.isEmpty
 |.dgt a b,sc,N,x=>xM1 "get" x (mE a sc N) (mE b sc N)
 |.din ne a b,sc,N,x=>xCo x λq p r=>(q==(if ne then Hz else .In))&&(mE a sc N p&&mE b sc N r)
 |.lrl a,sc,N,x=>xC1 "list" sc x λp=>xC1 "reversed" sc p (mE a sc N)
 |.lrev a,sc,N,x=>xM0 "reverse" x (mE a sc N)
 |.gc g,sc,_,x=>Y5 x g&&(glb sc g&&okN g)
 |.lam np Nl cp e,sc,N,x=>xLa x λargs body scope _=>(V6 args).any λps=>N.contains t9&&(ai9 sc N scope Nl ps np cp&&(!(Nl.contains t9)&&mE e scope Nl body))
 |.index a b,sc,N,x=>xM1 "index" x (mE a sc N) (mE b sc N)
 |.comp Nc fr k t it c e,sc,N,x=>xLC x λel g scope _=>l1 g λg=>(g.is_async==0)&&(ac4 sc scope N Nc fr k&&(mIt it sc N g.target g.iter&&(mTg AF t (ay1 scope sc) Nc g.target&&(mE e (ay1 scope sc) Nc el&&cE c (mE c (ay1 scope sc) Nc) g.ifs))))
noncomputable def mEs:Es->BS->List Str->List AS->Bool
 |.nil,_,_,xs=>xs.isEmpty
 |.cons e r,sc,N,xs=>EE (motive:=λ_=>Bool) xs AF λx xs=>mE e sc N x&&mEs r sc N xs
noncomputable def mIt:It->BS->List Str->AS->AS->Bool
 |.seq e,sc,N,_,x=>mE e sc N x
 |.rng a,sc,N,_,x=>xC1 "range" sc x (mE a sc N)
 |.rng2 a b,sc,N,_,x=>xC2 "range" sc x λp q=>mE a sc N p&&mE b sc N q
 |.enumr e,sc,N,tg,x=>xT tg (λ_ _ _=>AC)&&xC1 "enumerate" sc x λp=>xC1 "reversed" sc p (mE e sc N)
 |.zip a b,sc,N,tg,x=>xT tg (λ_ _ _=>AC)&&xC2 "zip" sc x λp q=>mE a sc N p&&mE b sc N q
 |.revt e,sc,N,_,x=>xC1 "reversed" sc x (mE e sc N)
 |.rev e,sc,N,_,x=>xC1 "reversed" sc x (mE e sc N)
end
structure XOk(Z:Sg)(X:Cx):Prop where
 calm:X.calm=AC
 xe:X.xe=λ_ _=>False
 units:X.A.units+200<Bv
 nd:X.N.Nodup
 blt:∀b∈ab0,X.mg b=AD
 fns:∀f,isM f=AF->Z.F f=AC->FOk X f (Z.Phi f)
 nom:∀f fa,Z.F f=AC->BJ X.K AO f=AA (AA (.ref fa))->isM f=AF
 cls:∀f c Ca,BJ X.K AO c=AA (AA (.ref Ca))->f∈Z.C c->Cls X.K Ca/\M4 X.K Ca f
 mth:∀m c Ca,BJ X.K AO c=AA (AA (.ref Ca))->Z.F (f9 c m)=AC->∃k f fd ps,Cls X.K Ca/\Meth X.K Ca m f/\FnOk X.prog X.w X.K X.mg X.base CX0 k f fd ps (C8 X.K (Z.Phi (f9 c m)))/\Room k X.A/\y0 X.K fd ps []
 mthd:∀m c Ca i,BJ X.K AO c=AA (AA (.ref Ca))->Z.F (f9 c m)=AC->E5 Z.C (f9 c m)=AA i->∃k f fd ps tk,Cls X.K Ca/\Meth X.K Ca m f/\FnOk X.prog X.w X.K X.mg X.base CX0 k f fd ps (C8 X.K (Z.Phi (f9 c m)))/\Room k X.A/\y0 X.K fd ps [.int i tk]
 mks:∀c,Z.MF (f9 c "__init__")=AC->∃Ca k f fd ps,BJ X.K AO c=AA (AA (.ref Ca))/\Mk X.K Ca f/\FnOk X.prog X.w X.K X.mg X.base CX0 k f fd ps (C8 X.K (Z.Mk (f9 c "__init__")))/\Room (k+1) X.A/\X.mg c=AA (.ref Ca)/\y0 X.K fd ps []
 tabs:∀g,Z.G g≠[]->GTab X.prog X.w X.K X.mg g (Z.G g)
 cst:∀g d,Z.Kc g=AA d->∃u,X.mg g=AA u/\R0 X.K d u=AC
 isc:∀c∈Z.C "!is",∃Ca,X.mg c=AA (.ref Ca)/\IscOk X.K c Ca
 kt:Tbs.kt=(Z.C "!kt").isEmpty
 lam:X.N.contains t9=AC->LamOk X/\∀x,X.N.contains (B6 x)=AC->X.fn x=AF/\X.ow x=AC
 mtE:∀(e:E)(sc:BS)(N:List Str)(x:AS),mE e sc N x=AC->N.contains t9=AF->Tbs.mt (.cons (.ret e) .nil) sc N (.expr x)
 clo:∀np N b cs fa fd ps,CloF fd np N ps b->∃k,FnOk X.prog X.w X.K X.mg X.base CX0 k fa fd ps (ad0 X.K fa fd np N cs (Z.PhiC np N b cs))/\Room k X.A
end Ek
namespace Ek
open PySem PySem.Spec PyProof.Rows L2
variable [Tbs]
variable{x:AS}{Z:Sg}{X:Cx}{f:Str}{scope:BS}{Nc:List Str}{fr:List Nat}
structure Snd(Z:Sg)(X:Cx)(e:E)(x:AS):Prop where
 v:PE X x (up X.K (wpE Z e))
 t:E8 x=AC->PT X x (upB X.K (wpT Z e))
 w:∀op vs p,x=.BoolOp op vs p->PW X x (upB X.K (wpT Z e))
 st:∀y p,x≠.Starred y p
 sl:∀l u s p,x≠.Slice l u s p
 se:∀l k p,x≠.Set l k p
def ax6(h:bj6 x=AC):(∀y p,x≠.Starred y p)/\(∀l u s p,x≠.Slice l u s p)/\∀l k p,x≠.Set l k p:=
 ⟨λ_ _ z=>(by rw[z]at h;cases h),λ_ _ _ _ z=>(by rw[z]at h;cases h),λ_ _ _ z=>by rw[z]at h;cases h⟩
def Snd.plain{e}(f:PE X x (up X.K (wpE Z e)))(hi:∀a,Hy x X.env a=do let v <-a;Hm x.pos;holding [v] (truthy v))(c:bj6 x=AC)(g:∀op b p,x≠.BoolOp op b p):Snd Z X e x:=
 ⟨f,λ_=>c01 f hi,λop b p z=>absurd z (g op b p),(ax6 c).1,(ax6 c).2.1,(ax6 c).2.2⟩
abbrev cp9(x:AS):Bool:=[2,4,6,8,16,19,20,21,23,24,25].contains x.ctorIdx
def Snd.pl{e:E}(b:PE X x (up X.K (wpE Z e)))(h:cp9 x=AC):Snd Z X e x:=by
 cases x<;>first|exact(AI h).elim|exact Snd.plain b (λ_=>rfl) rfl (by intros;exact nofun)
def z8(h:glb X.env.scope f=AC):Gl X f:=by
 have:=by simpa[glb]using h
 exact this
def bm3{sc}(h:aj3 sc f=AC):Vis sc f:=by
 unfold aj3 at h
 split at h
 ·exact .inl (by assumption)
 ·exact .inr (.inl (by assumption))
 ·exact .inr (.inr (by assumption))
 ·cases h
def ac5{sc}(h:R3 sc f=AC):Loc sc f:=by
 unfold R3 at h
 split at h
 ·exact .inl (by assumption)
 ·exact .inr (by assumption)
 ·cases h
def J5{x}(h:okN x=AC):(x=="__debug__")=AF/\(x=="__classdict__")=AF:=by
 simpa[okN]using h
def M6{o:AS}(h:Q4 o=AC):∀i p a,o≠.Call (.Name i p) [] [] a:=λ_ _ _ z=>by rw[z]at h;cases h
def XOk.blt'(h:XOk Z X)(b:Str)(a:ab0.contains b=AC:=by decide):X.mg b=AD:=h.blt b (by simpa using a)
def XOk.pass(h:XOk Z X):HI (model X.prog X.w) X.A X.env X.xe:=h.xe▸PassesOwn.never
def av3{ow:Bool}{t:Tg}(D:X.calm=AC)(w:X.N.Nodup)(o:ow=AC->∀y,Loc X.env.scope y->X.N.contains (B6 y)=AF->X.fn y=AC\/X.env.scope.names.lookup y=AA .local)(h:mTg ow t X.env.scope X.N x=AC):PG X x (upG X.K t):=by
 have l:∀(i:Nat)(y:Str)(p:Pos),((X.N[i]?==AA y)&&R3 X.env.scope y&&((ow&&!(X.N.contains (B6 y)))||lcl X.env.scope y))=AC->X.N[i]?=AA y/\Loc X.env.scope y/\(X.fn y=AC\/X.env.scope.names.lookup y=AA .local):=λi y p h=>by
  simp only[BL,beq_iff_eq,Jv,Gx]at h;refine⟨h.1.1,ac5 h.1.2,?_⟩
  rcases h.2 with z|z
  ·exact o z.1 y (ac5 h.1.2) z.2
  ·exact .inr (by simpa[lcl]using z)
 cases t with
 |n i=>
  refine xN_ (C:=λx=>PG X x (upG X.K (.n i))) h λy p h=>?_;obtain⟨a,b,c⟩:=l _ _ p h;exact ci9 w a b c
 |tup f=>
  refine xT_ (C:=λx=>PG X x (upG X.K (.tup f))) h λes k p h=>?_;obtain⟨j,E⟩:=an h;have v:∀(f:List Nat)(es:List AS),f.length=es.length->((f.zip es).all λp=>xN p.2 λy _=>(X.N[p.1]?==AA y)&&R3 X.env.scope y&&((ow&&!(X.N.contains (B6 y)))||lcl X.env.scope y))=AC->PGs X es (ad6 f)/\(CS es X.env).length=f.length/\(CS es X.env).findIdx? (·.1)=AD:=by
   intro f
   induction f with
   |nil=>
    intro es j _;cases es with
    |nil=>exact⟨cb8,rfl,rfl⟩
    |cons a b=>cases j
   |cons i f B=>
    intro es j h;cases es with
    |nil=>cases j
    |cons e es=>
     obtain⟨q,F⟩:=an h;obtain⟨u,s,r⟩:=B es (FV j) F;refine xN_ (C:=λe=>PGs X (e::es) (ad6 (i::f))/\(CS (e::es) X.env).length=(i::f).length/\(CS (e::es) X.env).findIdx? (·.1)=AD) q λy py q=>?_;obtain⟨a,b,c⟩:=l i y py q;refine⟨b86 (bd6 w a b c) u rfl,congrArg (·+1) s,?_⟩;show List.findIdx? _ ((AF,assign (.Name y py) X.env)::CS es X.env)=AD;rw[List.findIdx?_cons];rw[r];rfl
  obtain⟨u,s,r⟩:=v f es (beq_iff_eq.1 j) E;exact ct9 D u s r
def a76{k:Nat}(h:ac4 X.env.scope scope X.N Nc fr k=AC):CompScope X scope Nc fr k:=by
 unfold ac4 at h;simp only[BL,beq_iff_eq,decide_eq_true_eq,EL]at h;obtain⟨⟨⟨⟨⟨⟨⟨⟨r,p⟩,o⟩,m⟩,l⟩,g⟩,_⟩,f⟩,e⟩:=h;refine⟨r,λy hy=>?_,λy hy hl=>?_,λy hy hf=>?_,λy hy hf b=>?_,g,f,λi x hx hi=>?_⟩
 ·simpa using p y hy
 ·have:=o y hy;rw[hl]at this;simpa using this
 ·have:=m y hy;rw[hf]at this;simpa using this
 ·have:=l y hy;rw[hf]at this;have:(scope.names.any λz=>z.1==y.1&&z.2==.local)=AF:=by simpa using this
  rw[FI]at this;exact absurd ∎ (this _ b)
 ·have:=e i (by simpa using hi);rw[hx]at this;cases q:fr[i]? with
  |none=>rw[q]at this;cases this
  |some j=>
   rw[q]at this;simp only[BL,beq_iff_eq,Hf]at this;obtain⟨a,⟨n,s⟩,b,d,c⟩:=this;simp only at d c;subst d c;exact⟨j,rfl,a,b⟩
def ae9{k}(h:ac4 X.env.scope scope X.N Nc fr k=AC):=by
 unfold ac4 at h;simp only[BL,Gx]at h;exact h.1.1.2
theorem XOk.comp{k}(h:XOk Z X)(l:Nc.contains t9=AF)(S:CompScope X scope Nc fr k)(C:AH)(n:List AH)pins(s:AJ)(H:Hp):XOk Z (X.comp scope Nc C n pins s H) where
 calm:=h.calm
 xe:=rfl
 units:=h.units
 nd:=S.nd
 blt:=h.blt
 fns:=λf hm hf=>let⟨k,a,e,d,x⟩:=(h.fns f hm hf).ex;⟨k,a,e,d,x⟩
 nom:=λf fa a=>h.nom f fa a
 cls:=λf c Ca a=>h.cls f c Ca a
 mth:=λm c Ca a=>h.mth m c Ca a
 mthd:=λm c Ca i a b=>h.mthd m c Ca i a b
 mks:=λc=>h.mks c
 tabs:=λg hg=>⟨(h.tabs g hg).ex⟩
 lam:=λz=>by
  have j:Nc.contains t9=AC:=z;rw[l]at j;cases j
 cst:=h.cst
 isc:=h.isc
 kt:=h.kt
 mtE:=h.mtE
 clo:=λnp N b cs fa e d=>h.clo np N b cs fa e d
theorem fmc{b c:Type}{f g:b->Option c}:∀{l:List b},(∀n∈l,f n=g n)->l.filterMap f=l.filterMap g
 |[],_=>rfl
 |a::l,h=>by rw[Dm,Dm,h a (.head _),fmc λn hn=>h n (.tail _ hn)]
theorem bb5:∀(b:List Str)(c:List AG),b.Nodup->c.length=b.length->(b.filterMap λn=>((b.zip c).lookup n).map (n,·))=b.zip c/\∀n∈b,((b.zip c).lookup n).isNone=AF
 |[],c,_,_=>⟨rfl,nofun⟩
 |a::b,u::c,d,f=>by
  obtain⟨h,g⟩:=bb5 b c (BU.1 d).2 (FV f);refine⟨?_,λn hn=>?_⟩
  ·rw[DR,Dm,EJ,beq_self_eq_true];refine congrArg ((a,u)::·) (KS (fmc λn hn=>?_) h);rw[EJ,beq_false_of_ne λe:n=a=>(BU.1 d).1 (e▸hn)]
  ·rw[DR,EJ];cases e:n==a with
   |true=>rfl
   |false=>exact g n ((AK.1 hn).resolve_left λz=>by rw[z,beq_self_eq_true]at e;cases e)
def fz{c b a:Type}{z:List c}{i}{f}{g:b->Sem a}(hz:z=[]):forIn z i f>>=g=g i:=by subst hz;rfl
def c99(name a:Str)(l:List Arg)(k:Dr)(scope:BS)(cl:List (Str×AH))(b f m o:AG)(us:List AG)(h:us.length=(l.map Ea).length)(g:(l.map Ea).Nodup):EG (M9 name a ⟨[],l,AD,[],[],AD,[]⟩ k scope cl b f m o) ⟨us,[]⟩=pure ((l.map Ea).zip us):=by
 obtain⟨e,d⟩:=bb5 (l.map Ea) us g h;have j:¬(AE (us.length>(l.map Ea).length)&&AC)=AC:=by rw[h];simp
 have c:(LW (0-(l.map Ea).length) ([]:List AG))=[]:=List.drop_nil;have i:¬(!(((l.map Ea).take ((l.map Ea).length-(LW (0-(l.map Ea).length) ([]:List AG)).length)).filter (λn=>(((l.map Ea).zip us).lookup n).isNone)).isEmpty)=AC:=by
  rw[c,BK,Kl,Eo,List.filter_eq_nil_iff.2 λn hn=>by rw[d n hn];exact AI];exact AI
 refine(if_neg j).trans ((if_neg i).trans ((fz ?_).trans ?_))
 ·exact(congrArg _ c).trans List.zip_nil_right
 ·exact congrArg (pure:List (Str×AG)->Sem _) ((congrArg _ (Ao _)).trans e)
theorem bq2 env:∀l,(l.all λa=>a.annotation.isNone)=AC->annotationsOf (l++[]++[]++[]++[]) env=[]
 |[],_=>rfl
 |⟨_,AD,_⟩::l,h=>bq2 env l h
def a03{p}{ps}(h:V6 p=AA ps):p.defaults=[]/\p.kw_defaults=[]/\(∀env,defaultsOf p env=([],[]))/\(∀env,annTrees p AD env=[]) /\
  ∀e d(t:Dr)(b:BS)w(f g u v:AG)c,c.length=ps.length->EG (M9 e d p t b w f g u v) ⟨c,[]⟩=pure (ps.zip c):=by
 obtain⟨y,l,x,z,A,B,C⟩:=p;unfold V6 at h
 split at h
 ·rename_i i;cases h;obtain⟨⟨⟨⟨⟨⟨⟨⟨⟨s,r⟩,q⟩,o⟩,n⟩,m⟩,k⟩,j⟩,_⟩,_⟩:=by simpa only[BL,List.isEmpty_iff,Option.isNone_iff_eq_none,decide_eq_true_eq]using i
  subst s r q o n m;exact⟨rfl,rfl,λ_=>rfl,λenv=>(Ao _).trans (bq2 env l k),λ_ _ _ _ _ _ _ _ _ c hl=>c99 _ _ l _ _ _ _ _ _ _ c hl j⟩
 ·cases h
def be3{e:Cz}{r:Dr}{v:Nat}{u ps:List Str}{t:List Nat}{b:Ss}(h:ai9 X.env.scope X.N scope u ps v t=AC)(E:∀x,X.N.contains (B6 x)=AC->X.fn x=AF/\X.ow x=AC)(B:Tbs.mt b scope u r)
  (n:∀(g f:Str)(T:List (Str×AH))(s A R S:AG)(p:List AG),p.length=ps.length->EG (M9 g f e r scope T s A R S) ⟨p,[]⟩=pure (ps.zip p)):NestOk X e r scope v u ps t b:=by
 unfold ai9 at h;simp only[BL,beq_iff_eq,Gx,decide_eq_true_eq,EL]at h;obtain⟨⟨⟨⟨⟨⟨⟨⟨⟨O,M⟩,L⟩,K⟩,J⟩,I⟩,H⟩,G⟩,F⟩,q⟩:=h;have l:∀x,(x,BF)∈scope.names->scope.names.lookup x=AA .free/\X.env.scope.names.lookup x=AA .cell/\X.N.contains (B6 x)=AC/\∃i:Nat,∃j:Nat,t[i]?=AA j/\X.N[j]?=AA x:=λx m=>by
  have:=F _ m;simp only[beq_self_eq_true,Dl,HX,BL,beq_iff_eq,Hf]at this;obtain⟨⟨⟨a,b⟩,c⟩,i,_,d⟩:=this;refine⟨a,b,c,i,?_⟩
  split at d
  ·rename_i j o;exact⟨j,o,by simpa using d⟩
  ·cases d
 refine⟨⟨M,L,K,J,I,H,λy hy=>by simpa using G y hy,λy hy hk=>?_⟩,O,B,n,λi j o=>?_,λx m=>?_⟩
 ·obtain⟨y,k⟩:=y;subst hk;exact(l y hy).1
 ·have D:=(AX.mp o).1;have:=q i (by simpa using D);rw[o]at this;simp only at this
  split at this
  ·rename_i x m;simp only[BL,beq_iff_eq,Hf]at this;obtain⟨a,⟨y,k⟩,C,z,w⟩:=this;simp only at z w;subst z w;exact⟨_,m,a,C⟩
  ·cases this
 ·obtain⟨a,b,c,i,j,Q,P⟩:=l x m;exact⟨⟨i,j,Q,P⟩,b,E x c⟩
end Ek
namespace Ek
open PySem PySem.Spec PyProof.Rows L2
variable [Tbs]
variable{X:Cx}{Z:Sg}{e:E}{l:List AS}
structure SndA(Z:Sg)(X:Cx)(es:Es)(xs:List AS):Prop where
 a:PA X xs (upA X.K es.len (p7 Z es))
 pl:∀pos:Pos,(CH pos (An xs X.env)).any (·.1)=AF
def bm4{o:LV}{q:AS}{a:Pos}{t:DT}(h:PT X q (upB X.K (tst t))):PW X (.BoolOp o [q] a) (upB X.K (tst t)):=by
 cases o with
 |And=>exact cj1 h
 |Or=>exact cv5 h
def b15:∀e(a)N(l)(k)p,mE e a N (.Set l k p)=AF:=by
 intro e a N l k p;cases e<;>rfl
def av8{env}{it}{sc}{N}{tg x}(h:mIt it sc N tg x=AC):∀v,Dn x env v=pure v:=by
 have g:∀l k p,x≠.Set l k p:=λl k p z=>by
  subst z;cases it with
  |seq e=>exact(AI ((b15 e sc N l k p).symm.trans h)).elim
  |enumr e=>exact(AI (an h).2).elim
  |zip a b=>exact(AI (an h).2).elim
  |_=>exact(AI h).elim
 intro v;cases x<;>first|rfl|exact absurd rfl (g _ _ _)
def ab3{K}{t t'}{σ}{H}{Q}(h:∀a b Q,t a b Q->t' a b Q)(q:up K t σ H Q):up K t' σ H Q:=by
 obtain⟨a,b,g,f,e,c,d⟩:=q;exact⟨a,b,g,f,e,h _ _ _ c,d⟩
def ax9{x}{P}(h:¬P)(w:∀a b Q,wpE Z e a b Q->P):PE X x (up X.K (wpE Z e)):=λ_ _ _ _ _ _ q=>by
 obtain⟨a,b,_,_,_,c,_⟩:=q;exact absurd (w a b _ c) h
def bp9{lo:E}{l:Option AS}(h:oE lo (mE lo X.env.scope X.N) l=AC)(H:∀x,mE lo X.env.scope X.N x=AC->Snd Z X lo x):PO X l (upO X.K λenv st k=>(if lo.isNon=AC then λk=>k AD st else λ(k:Option Int->Sto->Prop)=>wpE Z lo env st λd st'=>∃i,d=.int i/\k (AA i) st') k):=by
 cases l with
 |none=>rw[show lo.isNon=AC from h];exact cj8
 |some l=>
  obtain⟨b,a⟩:=an h;rw[show lo.isNon=AF from nt b];exact cg6 (H l a).v
def bp6{c:E}(h:cE c (mE c X.env.scope X.N) l=AC)(H:∀x,mE c X.env.scope X.N x=AC->Snd Z X c x):PCs X l (upB X.K (if c.isNon=AC then λ_ st Q=>Q AC st else λenv st Q=>wpE Z c env st λd st'=>∃b,d=.bl b/\Q b st')):=by
 cases l with
 |nil=>
  rw[show c.isNon=AC from h];exact λpins' s' σ' H' Q' I'⟨env,st,Qd,hE,hS,ht,hq⟩=>cf3 pins' s' σ' H' Q' I' (hq AC H' st Ev.refl hS ht)
 |cons a l=>
  refine l1_ (C:=λl=>PCs X l _) (show l1 (a::l) (λx=>!c.isNon&&(E8 x&&mE c X.env.scope X.N x))=AC from h) λx h=>?_;obtain⟨i,e⟩:=an h;rw[show c.isNon=AF from nt i];exact ch0 ((H x (an e).2).t (an e).1)
def bm6{ks}{vs}(h:ay5 ks vs=AC):ks.length=vs.len/\ks.Nodup/\ks.length<=15/\∀{l:List (Option AS)},l.length=ks.length->l≠[]:=
 ⟨beq_iff_eq.1 (an h).1,of_decide_eq_true (an (an h).2).1,of_decide_eq_true (an (an (an h).2).2).1,λe z=>by
  subst z;rw[BD e.symm]at h;exact AI (an (an (an h).2).2).2⟩
def mcF{cp}(a:(CH cp (An l X.env)).any (·.1)=AF)(h:l.length<29):Ee (l.length+0) (CH cp (An l X.env)) (FA cp (Da [] X.env))=AC:=by
 unfold Ee;rw[show(CH cp (An l X.env)).all (λx=>!x.1)=AC from by
  rw[EL];intro w b;rw[FI]at a;simpa using a w b]
 exact decide_eq_true (GN h)
def Snd.cm{a:AS}{o:List Dw}{b:List AS}{p:Pos}(d:PE X (.Compare a o b p) (up X.K (wpE Z e)))(c:PT X (.Compare a o b p) (upB X.K (wpT Z e))):Snd Z X e (.Compare a o b p):=⟨d,λ_=>c,nofun,nofun,nofun,nofun⟩
def Snd.bo{o}{b}{p}(c:PE X (.BoolOp o b p) (up X.K (wpE Z e)))(a:PW X (.BoolOp o b p) (upB X.K (wpT Z e))):Snd Z X e (.BoolOp o b p):=⟨c,λ_=>a.pt,λ_ _ _ _=>a,nofun,nofun,nofun⟩
def lb_{k}{m}{C:List AS->Prop}(h:lb l k m=AC)(H:∀p q,k p q=AC->C [p,q])(J:∀p q r s,m p (q::r::s)=AC->C (p::q::r::s)):C l:=
 match l,h with
 |[p,q],h=>H p q h
 |p::q::r::s,h=>J p q r s h
def XOk.fnx(e:XOk Z X)(f)fa(g:Z.F f=AC)(b:BJ X.K AO f=AA (AA (.ref fa))):∃k d c,FnOk X.prog X.w X.K X.mg X.base CX0 k fa d c (C8 X.K (Z.Phi f))/\Room k X.A/\CI X.K (.ref fa)=AC/\y0 X.K d c []:=by
 obtain⟨k,a,d,c,F,h,m,j,l,i⟩:=(e.fns f (e.nom f fa g b) g).ex;rw[i]at b;cases b;exact⟨k,d,c,F,h,j,l⟩
mutual
theorem g9(Z:Sg):∀(e:E)(X:Cx)(x:AS),XOk Z X->mE e X.env.scope X.N x=AC->Snd Z X e x
 |.non,X,x,hX,h=>U4 h λn p=>Snd.pl (by exact aj2 cq0 λ_=>.non) rfl
 |.bl b,X,x,hX,h=>U4 h λn p=>Snd.pl (by exact aj2 c06 λ_=>.bl _) rfl
 |.int i,X,x,hX,h=>U4 h λn p=>Snd.pl (by exact aj2 cl8 λ_=>.int _) rfl
 |.str y,X,x,hX,h=>U4 h λn p=>Snd.pl (by exact aj2 bi5 λ_=>.str _) rfl
 |.v i,X,x,hX,h=>xN_ h λy p h=>Snd.pl (by exact cl3 (beq_iff_eq.1 (an h).1) (bm3 (an (an h).2).1) (J5 (an (an h).2).2).1 (J5 (an (an h).2).2).2) rfl
 |.tup es,X,x,hX,h=>xT_ h λl n p h=>Snd.pl (by exact cv2 (G7 Z es X _ hX (an h).1).a (of_decide_eq_true (an h).2)) rfl
 |.lst es,X,x,hX,h=>xL_ h λl p h=>Snd.pl (by exact cz5 (G7 Z es X _ hX (an h).1).a (of_decide_eq_true (an h).2)) rfl
 |.bin o a b,X,x,hX,h=>df2 h λp q r ps h=>by
  cases beq_iff_eq.1 (an h).1;exact Snd.pl (by exact cs8 (g9 Z a X _ hX (an (an h).2).1).v (g9 Z b X _ hX (an (an h).2).2).v) rfl
 |.neg a,X,x,hX,h=>xU_ h λo p ps h=>by
  cases beq_iff_eq.1 (an h).1;exact Snd.plain (by exact cs9 (g9 Z a X _ hX (an h).2).v) (λ_=>rfl) rfl (by intros;exact nofun)
 |.cmp o a b,X,x,hX,h=>Y9 h λq p r ps h=>by
  cases beq_iff_eq.1 (an h).1;have ia:=g9 Z a X _ hX (an (an h).2).1;have ib:=g9 Z b X _ hX (an (an h).2).2;exact Snd.cm (by exact cu9 hX.units ia.v ib.v ib.se) (by unfold wpT;exact cz6 hX.units ia.v ib.v ib.se)
 |.isN a,X,x,hX,h=>Y9 h λq p r ps h=>by
  cases beq_iff_eq.1 (an h).1;refine U4 (C:=λr=>Snd Z X (.isN a) (.Compare p [.Is] [r] ps)) (an (an h).2).1 λn pp=>?_;have ia:=g9 Z a X _ hX (an (an h).2).2;exact Snd.cm (by exact co5 ia.v) (by unfold wpT;exact cn8 ia.v)
 |.notN a,X,x,hX,h=>Y9 h λq p r ps h=>by
  cases beq_iff_eq.1 (an h).1;refine U4 (C:=λr=>Snd Z X (.notN a) (.Compare p [.IsNot] [r] ps)) (an (an h).2).1 λn pp=>?_;have ia:=g9 Z a X _ hX (an (an h).2).2;exact Snd.cm (by exact cb6 ia.v) (by unfold wpT;exact b88 ia.v)
 |.and a b,X,x,hX,h=>bp2 h λo l ps h=>by
  cases beq_iff_eq.1 (an h).1;refine lb_ (C:=λl=>Snd Z X (.and a b) (.BoolOp .And l ps)) (an h).2 (λp q h=>?_) λp q r l6 h=>?_
  ·have ia:=g9 Z a X _ hX (an (an (an h).1).1).1;have ib:=g9 Z b X _ hX (an (an (an h).1).1).2;exact Snd.bo (by exact bl6 ia.v (bi6 ib.v)) (by unfold wpT;exact bk3 (ia.t (an (an h).1).2) (bm4 (ib.t (an h).2)))
  ·have ia:=g9 Z a X _ hX (an (an h).1).1;have ib:=g9 Z b X _ hX (an (an h).1).2;exact Snd.bo (by exact bl6 ia.v ib.v) (by unfold wpT;exact bk3 (ia.t (an h).2) (ib.w _ _ _ rfl))
 |.or a b,X,x,hX,h=>bp2 h λo l ps h=>by
  cases beq_iff_eq.1 (an h).1;refine lb_ (C:=λl=>Snd Z X (.or a b) (.BoolOp .Or l ps)) (an h).2 (λp q h=>?_) λp q r l6 h=>?_
  ·have ia:=g9 Z a X _ hX (an (an (an h).1).1).1;have ib:=g9 Z b X _ hX (an (an (an h).1).1).2;exact Snd.bo (by exact bo0 ia.v (bi6 ib.v)) (by unfold wpT;exact bm8 (ia.t (an (an h).1).2) (bm4 (ib.t (an h).2)))
  ·have ia:=g9 Z a X _ hX (an (an h).1).1;have ib:=g9 Z b X _ hX (an (an h).1).2;exact Snd.bo (by exact bo0 ia.v ib.v) (by unfold wpT;exact bm8 (ia.t (an h).2) (ib.w _ _ _ rfl))
 |.not a,X,x,hX,h=>xU_ h λo p ps h=>by
  cases beq_iff_eq.1 (an h).1;have ia:=g9 Z a X _ hX (an (an h).2).1;exact⟨by exact cm9 ia.v,λ_=>(by unfold wpT;exact cs1 (ia.t (an (an h).2).2)),nofun,nofun,nofun,nofun⟩
 |.ite c a b,X,x,hX,h=>dg5 h λp q r ps h=>
  ⟨by exact cv0 ((g9 Z c X _ hX (an (an h).1).1).t (an (an h).1).2) (g9 Z a X _ hX (an (an h).2).1).v (g9 Z b X _ hX (an (an h).2).2).v,nofun,nofun,nofun,nofun,nofun⟩
 |.ix a b,X,x,hX,h=>xS_ h λp q ps h=>
  have ib:=g9 Z b X _ hX (an h).2
  Snd.pl (by exact c16 hX.units (g9 Z a X _ hX (an h).1).v ib.v ib.sl) rfl
 |.sl a lo hi,X,x,hX,h=>xS_ h λp s ps h=>dh3 (C:=λs=>Snd Z X (.sl a lo hi) (.Subscript p s ps)) (an h).2 λl u st p2 h2=>by
  cases st with
  |some _=>exact(AI h2).elim
  |none=>exact Snd.pl (by exact c28 (g9 Z a X _ hX (an h).1).v (bp9 (an (an h2).2).1 λx=>g9 Z lo X x hX) (bp9 (an (an h2).2).2 λx=>g9 Z hi X x hX)) rfl
 |.dsel ks vs k,X,x,hX,h=>xS_ h λd q ps h=>xD_ (C:=λd=>Snd Z X (.dsel ks vs k) (.Subscript d q ps)) (an h).2 λkeys xs dp h2=>by
  have ik:=g9 Z k X _ hX (an h).1;obtain⟨h4,h5,h6,hne⟩:=bm6 (an (an h2).2).2;obtain⟨d,e1,e2,e3⟩:=aw0 Z vs X ks _ _ dp hX (an h2).1 (an (an h2).2).1 h4;exact Snd.pl (by exact cd5 hX.units d e1 e2 (hne e3) e3 ⋯ h5 ik.v ik.sl) rfl
 |.gget g k d,X,x,hX,h=>xM_ h λo ap l cp hl h=>ac7 (C:=λo=>Snd Z X (.gget g k d) (.Call (.Attribute o "get" ap) l [] cp)) (an h).1 λnp=>l2_ (C:=λl=>Snd Z X (.gget g k d) (.Call (.Attribute (.Name g np) "get" ap) l [] cp)) (an (an (an h).2).2).2 λp q h2=>
  have ik:=g9 Z k X _ hX (an h2).1;have id:=g9 Z d X _ hX (an h2).2
  Snd.pl (by exact ca7 (hX.tabs g) (z8 (an (an h).2).1) ik.v id.v ik.st id.st hl (J5 (an (an (an h).2).2).1).1) rfl
 |.gsel g k,X,x,hX,h=>xS_ h λn q ps h=>ac7 (C:=λn=>Snd Z X (.gsel g k) (.Subscript n q ps)) (an h).1 λnp=>
  have ik:=g9 Z k X _ hX (an (an (an h).2).2).2
  Snd.pl (by exact cc0 (hX.tabs g) (z8 (an (an h).2).1) ik.v ik.sl (J5 (an (an (an h).2).2).1).1) rfl
 |.len a,X,x,hX,h=>K6 h λq p ps h1 h2=>
  have ia:=g9 Z a X _ hX h2
  Snd.pl (by exact ct3 (z8 h1) (hX.blt' _) ia.v ia.st) rfl
 |.toInt a,X,x,hX,h=>K6 h λq p ps h1 h2=>
  have ia:=g9 Z a X _ hX h2
  Snd.pl (by exact b31 (z8 h1) (hX.blt' _) ia.v ia.st) rfl
 |.list a,X,x,hX,h=>K6 h λq p ps h1 h2=>
  have ia:=g9 Z a X _ hX h2
  Snd.pl (by exact ci6 (z8 h1) (hX.blt' _) ia.v ia.st) rfl
 |.tuple a,X,x,hX,h=>K6 h λq p ps h1 h2=>
  have ia:=g9 Z a X _ hX h2
  Snd.pl (by exact b40 (z8 h1) (hX.blt' _) ia.v ia.st) rfl
 |.max a b,X,x,hX,h=>aj5 h λq p r ps h1 h2=>
  have ia:=g9 Z a X _ hX (an h2).1;have ib:=g9 Z b X _ hX (an h2).2
  Snd.pl (by exact cq5 hX.calm (z8 h1) (hX.blt' _) ia.v ib.v ia.st ib.st) rfl
 |.min a b,X,x,hX,h=>aj5 h λq p r ps h1 h2=>
  have ia:=g9 Z a X _ hX (an h2).1;have ib:=g9 Z b X _ hX (an h2).2
  Snd.pl (by exact cp3 hX.calm (z8 h1) (hX.blt' _) ia.v ib.v ia.st ib.st) rfl
 |.call f es,X,x,hX,h=>xG_ h λq l ps h1 h=>by
  cases l with
  |nil=>exact(AI (an (an (an h).2).2).1).elim
  |cons y ys=>cases es with
   |nil=>exact(AI (an (an (an h).2).2).2).elim
   |cons e0 er=>
    have i0:=g9 Z e0 X _ hX (an (an (an (an h).2).2).2).1;have ir:=G7 Z er X _ hX (an (an (an (an h).2).2).2).2;refine Snd.pl ?_ rfl
    by_cases hF:Z.F f=AC
    ·obtain⟨k,a,fd,ps,F,hr,hm,hk,hb,_⟩:=(hX.fns f (nt (an (an h).2).1) hF).ex;exact PE.imp (ch2 F hr (z8 h1) hm hk hb (W2 i0.v ir.a i0.st) (J5 (an h).1).1 i0.st (ir.pl _)) λ_ _ _=>ab3 λ_ _ _ ht=>ht.2
    ·exact ax9 hF λ_ _ _ ht=>ht.1
 |.gf f,X,x,hX,h=>ac7 (C:=λx=>Snd Z X (.gf f) x) (an h).1 λp=>by
  refine Snd.pl ?_ rfl
  by_cases hF:Z.F f=AC
  ·obtain⟨k,a,fd,ps,F,hr,hm,hk,hb,hn⟩:=(hX.fns f (nt (an (an (an h).2).2).2) hF).ex;exact PE.imp (c38 (z8 (an (an h).2).1) hm hn (J5 (an (an (an h).2).2).1).1) λ_ _ _=>ab3 λ_ _ _ ht=>ht.2
  ·exact ax9 hF λ_ _ _ ht=>ht.1
 |.callx c es,X,x,hX,h=>aj7 h λf l ps h=>by
  refine xS_ (C:=λf=>Snd Z X (.callx c es) (.Call f l [] ps)) (an h).1 λp q sp h1=>?_;cases l with
  |nil=>exact(AI (an (an h).2).1).elim
  |cons y ys=>cases es with
   |nil=>exact(AI (an (an h).2).2).elim
   |cons e0 er=>
    have i0:=g9 Z e0 X _ hX (an (an (an h).2).2).1;have ir:=G7 Z er X _ hX (an (an (an h).2).2).2;refine Snd.pl ?_ rfl;exact b44 (F:=Z.F) (Ph:=Z.Phi) (g9 Z c X _ hX h1).v hX.fnx (W2 i0.v ir.a i0.st) i0.st (ir.pl _)
 |.gc g,X,x,hX,h=>ac7 (C:=λx=>Snd Z X (.gc g) x) (an h).1 λp=>by
  refine Snd.pl ?_ rfl;cases hk:Z.Kc g with
  |none=>exact λ_ _ _ _ _ _⟨env,st,Qd,hE,hS,⟨i,hi,_⟩,hq⟩=>nomatch hk.symm.trans hi
  |some i=>
   obtain⟨t,hm,hv⟩:=hX.cst g i hk;obtain⟨v,rv,is⟩:=R0.is hv;exact PE.imp (bg0 (v:=v) (z8 (an (an h).2).1) hm rv (J5 (an (an h).2).2).1) λσ H Q q=>by
    obtain⟨env,st,Qd,hE,hS,⟨i',hi,ht⟩,hq⟩:=q;cases hk.symm.trans hi;exact hq.here (is H) hS ht
 |.lam np Nl cp e,X,x,hX,h=>dd0 h λargs body scope pos h=>by
  cases hp:V6 args with
  |none=>rw[hp]at h;exact(AI h).elim
  |some ps=>
   rw[hp]at h;obtain⟨h1,h⟩:=an (show(_&&_)=AC from h);obtain⟨L,hc⟩:=hX.lam h1;obtain⟨a1,a2,a3,a4,a5⟩:=a03 hp;exact Snd.pl (by exact cx8 a3 L (be3 (an h).1 hc (hX.mtE e scope Nl body (an (an h).2).2 (nt (an (an h).2).1)) (λname qual cl doc pm cv ct us hl=>a5 name qual _ scope cl doc pm cv ct us hl))) rfl
 |.callv i es,X,x,hX,h=>aj7 h λf l ps h=>by
  refine xN_ (C:=λf=>Snd Z X (.callv i es) (.Call f l [] ps)) (an h).1 λy p h1=>?_;cases l with
  |nil=>exact(AI (an (an h).2).1).elim
  |cons z zs=>cases es with
   |nil=>exact(AI (an (an h).2).2).elim
   |cons e0 er=>
    have i0:=g9 Z e0 X _ hX (an (an (an h).2).2).1;have ir:=G7 Z er X _ hX (an (an (an h).2).2).2;refine Snd.pl ?_ rfl;exact b24 (Z:=Z) (beq_iff_eq.1 (an h1).1) (bm3 (an (an h1).2).1) (J5 (an (an h1).2).2).1 (J5 (an (an h1).2).2).2 hX.fnx hX.clo (W2 i0.v ir.a i0.st) i0.st (ir.pl _)
 |.dict ks vs,X,x,hX,h=>xD_ h λkeys xs dp h2=>by
  obtain⟨h4,h5,h6,hne⟩:=bm6 (an (an h2).2).2;obtain⟨d,e1,e2,e3⟩:=aw0 Z vs X ks _ _ dp hX (an h2).1 (an (an h2).2).1 h4;exact Snd.pl (by exact cg9 d e1 e2 (hne e3) e3 ⋯ h5) rfl
 |.cmpl ne a b,X,x,hX,h=>Y9 h λq p r ps h=>by
  have e:=beq_iff_eq.1 (an h).1;have ia:=g9 Z a X _ hX (an (an h).2).1;have ib:=g9 Z b X _ hX (an (an h).2).2;exact Snd.cm (by exact cg1 e hX.units ia.v ib.v ib.se) (by unfold wpT;exact ch5 e hX.units ia.v ib.v ib.se)
 |.fld a f,X,x,hX,h=>xA_ h λo g ap h=>by
  cases beq_iff_eq.1 (an h).1;exact Snd.pl (by exact cn2 (C:=Z.C) (λc Ca=>hX.cls _ c Ca) (g9 Z a X _ hX (an (an h).2).2).v (G2 (M6 (an (an h).2).1))) rfl
 |.meth a m es,X,x,hX,h=>xM_ h λo ap l cp hl h=>by
  have hbo:=M6 (an (an h).1).1;have ia:=g9 Z a X _ hX (an (an h).1).2;have iall:=G7 Z es X _ hX (an (an h).2).1;refine Snd.pl ?_ rfl;cases l with
  |nil=>
   cases es with
   |nil=>exact PE.imp (b75 (F:=Z.F) (Ph:=Z.Phi) (λc Ca=>hX.mth m c Ca) hl hbo ia.v) λ_ _ _=>ab3 λ_ _ _ ht=>(by exact ht)
   |cons _ _=>exact(AI (an (an h).2).1).elim
  |cons z zs=>
   cases es with
   |nil=>exact(AI (an (an h).2).1).elim
   |cons e0 er=>
    exact ca6 (F:=Z.F) (Ph:=Z.Phi) (λc Ca=>hX.mth m c Ca) (mcF (iall.pl cp) (of_decide_eq_true (an (an h).2).2)) hl hbo ia.v iall.a (g9 Z e0 X _ hX (an (an (an h).2).1).1).st ((G7 Z er X _ hX (an (an (an h).2).1).2).pl _)
 |.methd a m es,X,x,hX,h=>xM_ h λo ap l cp hl h=>by
  have hbo:=M6 (an (an h).1).1;have ia:=g9 Z a X _ hX (an (an h).1).2;have h2:=an (an (an h).2).2;have iall:=G7 Z es X _ hX h2.1;refine Snd.pl ?_ rfl;cases l with
  |nil=>exact(AI (an (an h).2).1).elim
  |cons z zs=>cases es with
   |nil=>exact(AI h2.1).elim
   |cons e0 er=>
    exact b32 (F:=Z.F) (Ph:=Z.Phi) (C:=Z.C) (λc Ca i=>hX.mthd m c Ca i) (mcF (iall.pl cp) (of_decide_eq_true h2.2)) hl hbo ia.v iall.a (g9 Z e0 X _ hX (an h2.1).1).st ((G7 Z er X _ hX (an h2.1).2).pl _)
 |.make c es,X,x,hX,h=>xG_ h λq l ps h1 h=>by
  have iall:=G7 Z es X _ hX (an h).2;refine Snd.pl ?_ rfl
  by_cases hF:Z.MF (f9 c "__init__")=AC
  ·obtain⟨Ca,k,f,fd,ps,hn,M,Fo,hr,hm,hb⟩:=hX.mks c hF;cases l with
   |nil=>
    cases es with
    |nil=>exact PE.imp (b73 hn M Fo hr (z8 h1) hm hb (J5 (an h).1).1) λ_ _ _=>ab3 λ_ _ _ ht=>(by exact ht.2)
    |cons _ _=>exact(AI (an h).2).elim
   |cons z zs=>
    cases es with
    |nil=>exact(AI (an h).2).elim
    |cons e0 er=>
     exact PE.imp (cd3 hn M Fo hr (z8 h1) hm hb iall.a (J5 (an h).1).1 (g9 Z e0 X _ hX (an (an h).2).1).st ((G7 Z er X _ hX (an (an h).2).2).pl _)) λ_ _ _=>ab3 λ_ _ _ ht=>ht.2
  ·exact ax9 hF λ_ _ _ ht=>ht.1
 |.app a b,X,x,hX,h=>ae2 h λo ap p cp hl h1 h2 h3=>
  have ib:=g9 Z b X _ hX h3
  Snd.pl (by exact cq4 (g9 Z a X _ hX h2).v ib.v (M6 h1) ib.st hl) rfl
 |.ext a b,X,x,hX,h=>ae2 h λo ap p cp hl h1 h2 h3=>
  have ib:=g9 Z b X _ hX h3
  Snd.pl (by exact cx6 (g9 Z a X _ hX h2).v ib.v (M6 h1) ib.st hl) rfl
 |.popAt a b,X,x,hX,h=>ae2 h λo ap p cp hl h1 h2 h3=>
  have ib:=g9 Z b X _ hX h3
  Snd.pl (by exact b57 (g9 Z a X _ hX h2).v ib.v (M6 h1) ib.st hl) rfl
 |.pop a,X,x,hX,h=>bo6 h λo ap cp hl h1 h2=>Snd.pl (by exact cn9 (g9 Z a X _ hX h2).v (M6 h1) hl) rfl
 |.inl a b,X,x,hX,h=>Y9 h λq p r ps h=>by
  have e:=beq_iff_eq.1 (an h).1;cases e;have ia:=g9 Z a X _ hX (an (an h).2).1;have ib:=g9 Z b X _ hX (an (an h).2).2;exact Snd.cm (by exact ck8 hX.units ia.v ib.v ib.se) (by unfold wpT;exact cm6 hX.units ia.v ib.v ib.se)
 |.dnt,X,x,hX,h=>xD_ h λl r p h=>by
  cases l with
  |cons=>exact(AI h).elim
  |nil=>cases r with
   |cons=>exact(AI h).elim
   |nil=>exact Snd.pl (by exact cr5 (c:=Z.C "!kt") λhz=>by rw[hX.kt];cases e:Z.C "!kt" with|nil=>exact absurd e hz|cons _ _=>rfl) rfl
 |.dgt a b,X,x,hX,h=>ae2 h λo ap p cp hl h1 h2 h3=>
  have ib:=g9 Z b X _ hX h3
  Snd.pl (by exact ct4 hX.units (g9 Z a X _ hX h2).v ib.v (M6 h1) ib.st hl) rfl
 |.din ne a b,X,x,hX,h=>Y9 h λq p r ps h=>by
  have e:=beq_iff_eq.1 (an h).1;have ia:=g9 Z a X _ hX (an (an h).2).1;have ib:=g9 Z b X _ hX (an (an h).2).2;exact Snd.cm (by exact cx3 e hX.units ia.v ib.v ib.se) (by unfold wpT;exact co1 e hX.units ia.v ib.v ib.se)
 |.lrl a,X,x,hX,h=>K6 h λq z ps h1 h=>K6 (C:=λz=>Snd Z X (.lrl a) (.Call (.Name "list" q) [z] [] ps)) h λq2 p ps2 h2 h3=>
  have ia:=g9 Z a X _ hX h3
  Snd.pl (by exact cu3 hX.calm (z8 h1) (hX.blt' _) (z8 h2) (hX.blt' _) ia.v ia.st) rfl
 |.lrev a,X,x,hX,h=>bo6 h λo ap cp hl h1 h2=>Snd.pl (by exact cj4 (g9 Z a X _ hX h2).v (M6 h1) hl) rfl
 |.index a b,X,x,hX,h=>ae2 h λo ap p cp hl h1 h2 h3=>
  have ib:=g9 Z b X _ hX h3
  Snd.pl (by exact b41 hX.units (g9 Z a X _ hX h2).v ib.v (M6 h1) ib.st hl) rfl
 |.comp Nc fr k t it c e,X,x,hX,h=>dd9 h λel g scope pos h=>by
  refine l1_ (C:=λg=>Snd Z X (.comp Nc fr k t it c e) (.ListComp el g scope pos)) h λg h=>?_;obtain⟨tg,itx,ifs,n⟩:=g;obtain⟨h0,h⟩:=an h;cases(beq_iff_eq.1 h0:n=0);obtain⟨h1,h⟩:=an h;obtain⟨h2,h⟩:=an h;obtain⟨h3,h⟩:=an h;have Sc:=a76 h1;exact Snd.pl (PE.imp (ce8 hX.calm Sc (aw2 Z it X tg itx hX h2)
   (λC fp pins s H=>av3 (X:=X.comp scope Nc C fp pins s H) (ow:=AF) hX.calm Sc.nd nofun h3)
   (λC fp pins s H=>bp6 (X:=X.comp scope Nc C fp pins s H) (an h).2 λx h=>g9 Z c (X.comp scope Nc C fp pins s H) x (hX.comp (ae9 h1) Sc C fp pins s H) h)
   (λC fp pins s H=>(g9 Z e (X.comp scope Nc C fp pins s H) el (hX.comp (ae9 h1) Sc C fp pins s H) (an h).1).v) (av8 h2)) λσ H Q q=>a70 q) rfl
theorem G7(Z:Sg):∀(es:Es)(X:Cx)(xs:List AS),XOk Z X->mEs es X.env.scope X.N xs=AC->SndA Z X es xs
 |.nil,X,xs,hX,h=>by
  cases xs with
  |nil=>exact⟨by exact bi9,λ_=>rfl⟩
  |cons=>exact(AI h).elim
 |.cons e r,X,xs,hX,h=>by
  cases xs with
  |nil=>exact(AI h).elim
  |cons x xs=>
   have i0:=g9 Z e X _ hX (an h).1;have ir:=G7 Z r X _ hX (an h).2;refine⟨by exact W2 i0.v ir.a i0.st,λpos=>?_⟩;rw[o0 i0.st];exact ir.pl pos
theorem aw0(Z:Sg):∀(vs:Es)(X:Cx)(ks:List Str)(keys:List (Option AS))(xs:List AS)(dp:Pos),XOk Z X->mKs ks keys=AC->mEs vs X.env.scope X.N xs=AC->ks.length=vs.len ->
  DPs X dp keys xs ks (p7 Z vs)/\keys.all (·.isSome)=AC/\keys.length=xs.length/\keys.length=ks.length
 |.nil,X,ks,keys,xs,dp,hX,h1,h2,h3=>by
  cases xs with
  |cons=>exact(AI h2).elim
  |nil=>cases ks with
   |cons=>cases h3
   |nil=>cases keys with
    |nil=>exact⟨by exact cw2,rfl,rfl,rfl⟩
    |cons=>exact(AI h1).elim
 |.cons e r,X,ks,keys,xs,dp,hX,h1,h2,h3=>by
  cases xs with
  |nil=>exact(AI h2).elim
  |cons x xs=>cases ks with
   |nil=>cases h3
   |cons k ks=>cases keys with
    |nil=>exact(AI h1).elim
    |cons kx keys=>cases kx with
     |none=>exact(AI h1).elim
     |some kx=>
      obtain⟨d,a1,a2,a3⟩:=aw0 Z r X ks keys _ dp hX (an h1).2 (an h2).2 (FV h3);refine U4 (C:=λkx=>DPs X dp (AA kx::keys) (x::xs) (k::ks) (p7 Z (.cons e r))/\_) (an h1).1 λn p=>?_;exact⟨by exact cc5 (g9 Z e X _ hX (an h2).1).v d,a1,congrArg (·+1) a2,congrArg (·+1) a3⟩
theorem aw2(Z:Sg):∀(it:It)(X:Cx)(tg x:AS),XOk Z X->mIt it X.env.scope X.N tg x=AC->PI X tg x (upI X.K (A5 Z it))
 |.seq e,X,tg,x,hX,h=>by exact cm7 (g9 Z e X x hX h).v
 |.rng a,X,tg,x,hX,h=>K6 (C:=λx=>PI X tg x (upI X.K (A5 Z (.rng a)))) h λq p ps h1 h2=>
  have ia:=g9 Z a X _ hX h2
  (by exact cm8 (z8 h1) (hX.blt' _) ia.v ia.st)
 |.rng2 a b,X,tg,x,hX,h=>aj5 (C:=λx=>PI X tg x (upI X.K (A5 Z (.rng2 a b)))) h λq p r ps h1 h2=>
  have ia:=g9 Z a X _ hX (an h2).1;have ib:=g9 Z b X _ hX (an h2).2
  (by exact cj2 (z8 h1) (hX.blt' _) ia.v ib.v ia.st ib.st)
 |.enumr e,X,tg,x,hX,h=>xT_ (C:=λtg=>PI X tg x (upI X.K (A5 Z (.enumr e)))) (an h).1 λl n tp _=>K6 (C:=λx=>PI X _ x (upI X.K (A5 Z (.enumr e)))) (an h).2 λq z ps h1 h=>K6 (C:=λz=>PI X _ (.Call (.Name "enumerate" q) [z] [] ps) (upI X.K (A5 Z (.enumr e)))) h λq2 p ps2 h3 h2=>
  have ia:=g9 Z e X _ hX h2
  (by exact b70 (z8 h1) (hX.blt' _) (z8 h3) (hX.blt' _) ia.v ia.st)
 |.zip a b,X,tg,x,hX,h=>xT_ (C:=λtg=>PI X tg x (upI X.K (A5 Z (.zip a b)))) (an h).1 λl n tp _=>aj5 (C:=λx=>PI X _ x (upI X.K (A5 Z (.zip a b)))) (an h).2 λq p r ps h1 h2=>
  have ia:=g9 Z a X _ hX (an h2).1;have ib:=g9 Z b X _ hX (an h2).2
  (by exact cr8 (z8 h1) (hX.blt' _) ia.v ib.v ia.st ib.st)
 |.revt e,X,tg,x,hX,h=>K6 (C:=λx=>PI X tg x (upI X.K (A5 Z (.revt e)))) h λq p ps h1 h2=>
  have ia:=g9 Z e X _ hX h2
  (by exact cb7 (z8 h1) (hX.blt' _) ia.v ia.st)
 |.rev e,X,tg,x,hX,h=>K6 (C:=λx=>PI X tg x (upI X.K (A5 Z (.rev e)))) h λq p ps h1 h2=>
  have ia:=g9 Z e X _ hX h2
  (by exact cw5 (z8 h1) (hX.blt' _) ia.v ia.st)
end
end Ek
namespace Ek
open PySem PySem.Spec PyProof.Rows L2
variable [Tbs]
variable{x:Bf}{C:Bf->Prop}{e:E}{sc scope:BS}{N:List Str}{el:AS}{gs:List IY}{p:Pos}{n:Nat}{env:Env}
abbrev sA(x:Bf)(k:List AS->AS->Pos->Bool):Bool:=if h:x.ctorIdx=5 then FM x h k else AF
def sA_{k}(h:sA x k=AC)(H:∀l x p,k l x p=AC->C (.Assign l x p)):C x:=
 dE h λe=>FM x e (λl x p _=>H l x p) e
abbrev sX(x:Bf)(k:AS->Pos->Bool):Bool:=if h:x.ctorIdx=24 then GU x h k else AF
def sX_{k}(h:sX x k=AC)(H:∀x p,k x p=AC->C (.Expr x p)):C x:=
 dE h λe=>GU x e (λx p _=>H x p) e
abbrev sI(x:Bf)(k:AS->List Bf->List Bf->Pos->Bool):Bool:=if h:x.ctorIdx=12 then HS x h k else AF
def sI_{k}(h:sI x k=AC)(H:∀x a b p,k x a b p=AC->C (.If x a b p)):C x:=
 dE h λe=>HS x e (λx a b p _=>H x a b p) e
abbrev sR(x:Bf)(k:Option AS->Pos->Bool):Bool:=if h:x.ctorIdx=3 then FN x h k else AF
def sR_{k}(h:sR x k=AC)(H:∀x p,k x p=AC->C (.Return x p)):C x:=
 dE h λe=>FN x e (λx p _=>H x p) e
abbrev sF(x:Bf)(k:AS->AS->List Bf->List Bf->Pos->Bool):Bool:=if h:x.ctorIdx=9 then Gm x h k else AF
def sF_{k:AS->AS->List Bf->List Bf->Pos->Bool}(h:sF x k=AC)(H:∀g x a b p,k g x a b p=AC->C (.For g x a b p)):C x:=
 dE h λe=>Gm (motive_2:=λx=>∀e,Gm x e k=AC->C x) x e (λg x a b p _ h=>H g x a b p h) e
abbrev sW(x:Bf)(k:AS->List Bf->List Bf->Pos->Bool):Bool:=if h:x.ctorIdx=11 then Fk x h k else AF
def sW_{k}(h:sW x k=AC)(H:∀x a b p,k x a b p=AC->C (.While x a b p)):C x:=
 dE h λe=>Fk x e (λx a b p _=>H x a b p) e
abbrev sC(x:Bf)(k:Pos->Bool):Bool:=if h:x.ctorIdx=27 then Ej x h k else AF
def sC_{k}(h:sC x k=AC)(H:∀p,k p=AC->C (.Continue p)):C x:=
 dE h λe=>Ej x e (λp _=>H p) e
abbrev sP(x:Bf)(k:Pos->Bool):Bool:=if h:x.ctorIdx=25 then GV x h k else AF
def sP_{k}(h:sP x k=AC)(H:∀p,k p=AC->C (.Pass p)):C x:=
 dE h λe=>GV x e (λp _=>H p) e
abbrev sD(x:Bf)(k:Str->Cz->List Bf->List AS->Option AS->List TypeParam->BS->Option BS->Str->Pos->Bool):Bool:=if h:x.ctorIdx=0 then EF x h k else AF
def sD_{k}(h:sD x k=AC)(H:∀name d b l j i a g c p,k name d b l j i a g c p=AC->C (.FunctionDef name d b l j i a g c p)):C x:=
 dE h λe=>EF x e (λname d b l j i a g c p _=>H name d b l j i a g c p) e
abbrev sA1(s:Bf)(k:AS->AS->Bool):Bool:=sA s λl x _=>l1 l λt=>k t x
def aj1{s}{k}{C:Bf->Prop}(h:sA1 s k=AC)(H:∀t x p,k t x=AC->C (.Assign [t] x p)):=
 sA_ h λl x p h=>l1_ (C:=λl=>C (.Assign l x p)) h λt=>H t x p
mutual
noncomputable def mS:S->BS->List Str->Bf->Bool
 |.set i e,sc,N,s=>sA1 s λt x=>mE e sc N x&&xN t λy _=>(N[i]?==AA y)&&(R3 sc y&&!(N.contains (B6 y)))
 |.dput o i v,sc,N,s=>sA1 s λt x=>(mE v sc N x&&T7 x)&&xS t λp q _=>mE o sc N p&&mE i sc N q
 |.put o i v,sc,N,s=>sA1 s λt x=>(mE v sc N x&&T7 x)&&xS t λp q _=>mE o sc N p&&mE i sc N q
 |.fldS o f v,sc,N,s=>sA1 s λt x=>(mE v sc N x&&T7 x)&&xA t λp g _=>(g==f)&&mE o sc N p
 |.ex e,sc,N,s=>sX s λx _=>mE e sc N x&&T7 x
 |.iff c a b,sc,N,s=>sI s λx p q _=>(mE c sc N x&&E8 x)&&(mSs a sc N p&&mSs b sc N q)
 |.ret e,sc,N,s=>sR s λx _=>Gk (motive:=λ_=>Bool) x AF (mE e sc N)
 |.retN,_,_,s=>sR s λx _=>x.isNone
 |.for t it b,sc,N,s=>sF s λtg x p q _=>q.isEmpty&&(mTg AC t sc N tg&&(mIt it sc N tg x&&mSs b sc N p))
 |.while c b,sc,N,s=>sW s λx p q _=>q.isEmpty&&((mE c sc N x&&E8 x)&&mSs b sc N p)
 |.cont,_,_,s=>sC s λ_=>AC
 |.dead,_,_,_=>AC
 |.dfn i np Nl cp b,sc,N,s=>sD s λname args body dl rt tp scope ts bind _=>(dl.isEmpty&&rt.isNone&&tp.isEmpty&&ts.isNone)&&(V6 args).any λps=>(name==bind)&&((N[i]?==AA name)&&(R3 sc name&&(!(N.contains (B6 name))&&(N.contains t9&&(ai9 sc N scope Nl ps np cp&&(!(Nl.contains t9)&&mSs b scope Nl body))))))
 |.pass,_,_,s=>sP s λ_=>AC
noncomputable def mSs:Ss->BS->List Str->List Bf->Bool
 |.nil,_,_,l=>l.isEmpty
 |.cons s r,sc,N,l=>EE (motive:=λ_=>Bool) l AF λx xs=>mS s sc N x&&mSs r sc N xs
end
abbrev mFB(b:Ss)(sc:BS)(N:List Str)(fb:Dr):Prop:=N.contains t9=AF/\match fb with
 |.stmts l=>mSs b sc N l=AC
 |.expr x=>∃e,b=.cons (.ret e) .nil/\mE e sc N x=AC
@[reducible]noncomputable def HF(X:Cx):Prop:=∀y,Loc X.env.scope y->X.N.contains (B6 y)=AF->X.fn y=AC\/X.env.scope.names.lookup y=AA .local
def c72:mE e sc N (.SetComp el gs scope p)=AF:=by cases e<;>rfl
def c33{a b}:mE e sc N (.DictComp a b gs scope p)=AF:=by cases e<;>rfl
def c97(h:mE e sc N (.ListComp el gs scope p)=AC):∃f b k t a c d,e=.comp f b k t a c d:=by
 cases e<;>first|exact⟨_,_,_,_,_,_,_,rfl⟩|exact absurd h AI
def aa7{x}{t}(h:T7 x=AC):Cw x t n env=pure AF:=by
 cases x<;>first|rfl|cases h
def cf2{x t}(h:T7 x=AC):GX [t] x n env=pure AF:=aa7 h
def bu5{py}{y}:∃b,Cw (.ListComp el gs scope p) (AA (.Name y py)) n env=pure b:=⟨_,rfl⟩
mutual
theorem db5(Z:Sg)(hm:∀(b:Ss)(sc:BS)(N:List Str)(l:List Bf),mSs b sc N l=AC->N.contains t9=AF->Tbs.mt b sc N (.stmts l)):∀(s:S)(X:Cx)(x:Bf),XOk Z X->HF X->mS s X.env.scope X.N x=AC->PS X x (upS X.K (wpS Z s))
 |.set i e,X,x,hX,hf,h=>aj1 (C:=λx=>PS X x (upS X.K (wpS Z (.set i e)))) h λtx v pos h=>xN_ (C:=λtx=>PS X (.Assign [tx] v pos) (upS X.K (wpS Z (.set i e)))) (an h).2 λy py h2=>by
  have h3:=(an h).1;have ie:=g9 Z e X v hX h3;have h1:=beq_iff_eq.1 (an h2).1;have hl:=ac5 (an (an h2).2).1;have hf:=hf y hl (nt (an (an h2).2).2)
  by_cases hc:T7 v=AC
  ·exact bk2 hX.nd h1 hl ie.v (aa7 hc) hf
  ·cases v with
   |ListComp el gs scope p=>
    obtain⟨b,hb⟩:=bu5 (el:=el) (gs:=gs) (scope:=scope) (p:=p) (py:=py) (y:=y) (n:=pos.line) (env:=X.env);cases b with
    |false=>exact bk2 hX.nd h1 hl ie.v hb hf
    |true=>
     obtain⟨Nc,fr,k,t,it,c,e,rfl⟩:=c97 h3;revert hb;refine l1_ (C:=λgs=>Cw (.ListComp el gs scope p) (AA (.Name y py)) pos.line X.env=pure AC->PS X (.Assign [.Name y py] (.ListComp el gs scope p) pos) (upS X.K (wpS Z (.set i (.comp Nc fr k t it c e))))) h3 λg h hb=>?_;obtain⟨tg,itx,ifs,n⟩:=g;obtain⟨h0,h⟩:=an h;cases(beq_iff_eq.1 h0:n=0);obtain⟨g1,h⟩:=an h;obtain⟨g2,h⟩:=an h;obtain⟨g3,h⟩:=an h;have Sc:=a76 g1;exact PS.imp (bv3 hX.calm hX.nd h1 hl hf Sc (aw2 Z it X tg itx hX g2)
      (λC fp pins s H=>av3 (X:=X.comp scope Nc C fp pins s H) (ow:=AF) hX.calm Sc.nd nofun g3)
      (λC fp pins s H=>bp6 (X:=X.comp scope Nc C fp pins s H) (an h).2 λx h=>g9 Z c (X.comp scope Nc C fp pins s H) x (hX.comp (ae9 g1) Sc C fp pins s H) h)
      (λC fp pins s H=>(g9 Z e (X.comp scope Nc C fp pins s H) el (hX.comp (ae9 g1) Sc C fp pins s H) (an h).1).v) hb (av8 g2)) λF σ H⟨env,st,Fd,hE,hS,ht',hq⟩=>
      a70 ⟨env,st,(λd st'=>Fd.nx (env.set i (AA d)) st'),hE,hS,ht',λv d H' st' ev is rs q=>hq.nx _ _ H' st' ev ((hE.mono (ev.tk hS)).set is i) rs q⟩
   |SetComp el gs scope p=>exact(AI (c72.symm.trans h3)).elim
   |DictComp a b gs scope p=>exact(AI (c33.symm.trans h3)).elim
   |_=>exact absurd rfl hc
 |.dput o i v,X,x,hX,hf,h=>aj1 (C:=λx=>PS X x (upS X.K (wpS Z (.dput o i v)))) h λtx y pos h=>xS_ (C:=λtx=>PS X (.Assign [tx] y pos) (upS X.K (wpS Z (.dput o i v)))) (an h).2 λp q ps h2=>
  (by exact cd1 hX.units (g9 Z v X y hX (an (an h).1).1).v (g9 Z o X p hX (an h2).1).v (g9 Z i X q hX (an h2).2).v (aa7 (an (an h).1).2))
 |.put o i v,X,x,hX,hf,h=>aj1 (C:=λx=>PS X x (upS X.K (wpS Z (.put o i v)))) h λtx y pos h=>xS_ (C:=λtx=>PS X (.Assign [tx] y pos) (upS X.K (wpS Z (.put o i v)))) (an h).2 λp q ps h2=>by
  have iq:=g9 Z i X q hX (an h2).2;refine cx7 (g9 Z v X y hX (an (an h).1).1).v (g9 Z o X p hX (an h2).1).v iq.v (λw=>?_) (cf2 (an (an h).1).2) rfl;cases q<;>first|rfl|exact absurd rfl (iq.sl _ _ _ _)
 |.fldS o f v,X,x,hX,hf,h=>aj1 (C:=λx=>PS X x (upS X.K (wpS Z (.fldS o f v)))) h λtx y pos h=>xA_ (C:=λtx=>PS X (.Assign [tx] y pos) (upS X.K (wpS Z (.fldS o f v)))) (an h).2 λp g ps h2=>by
  cases beq_iff_eq.1 (an h2).1;exact cg8 (hX.cls _) (g9 Z v X y hX (an (an h).1).1).v (g9 Z o X p hX (an h2).2).v (aa7 (an (an h).1).2)
 |.ex e,X,x,hX,hf,h=>sX_ (C:=λx=>PS X x (upS X.K (wpS Z (.ex e)))) h λx p h=>(by exact c91 (g9 Z e X _ hX (an h).1).v (aa7 (an h).2))
 |.iff c a b,X,x,hX,hf,h=>sI_ (C:=λx=>PS X x (upS X.K (wpS Z (.iff c a b)))) h λx p q ps h=>
  (by exact c47 ((g9 Z c X _ hX (an (an h).1).1).t (an (an h).1).2) (T9 Z hm a X _ hX hf (an (an h).2).1) (T9 Z hm b X _ hX hf (an (an h).2).2))
 |.ret e,X,x,hX,hf,h=>sR_ (C:=λx=>PS X x (upS X.K (wpS Z (.ret e)))) h λx p h=>by
  cases x with
  |none=>exact(AI h).elim
  |some x=>exact cu8 (g9 Z e X _ hX h).v
 |.retN,X,x,hX,hf,h=>sR_ (C:=λx=>PS X x (upS X.K (wpS Z .retN))) h λx p h=>by
  cases x with
  |some _=>exact(AI h).elim
  |none=>exact ck4
 |.for t it b,X,x,hX,hf,h=>sF_ (C:=λx=>PS X x (upS X.K (wpS Z (.for t it b)))) h λtg x p q ps h=>by
  cases q with
  |cons=>exact(AI h).elim
  |nil=>exact co0 hX.pass hX.calm (aw2 Z it X _ _ hX (an (an (an h).2).2).1) (av3 hX.calm hX.nd (λ_=>hf) (an (an h).2).1) (T9 Z hm b X _ hX hf (an (an (an h).2).2).2) (av8 (an (an (an h).2).2).1)
 |.while c b,X,x,hX,hf,h=>sW_ (C:=λx=>PS X x (upS X.K (wpS Z (.while c b)))) h λx p q ps h=>by
  cases q with
  |cons=>exact(AI h).elim
  |nil=>exact b42 hX.pass ((g9 Z c X _ hX (an (an (an h).2).1).1).t (an (an (an h).2).1).2) (T9 Z hm b X _ hX hf (an (an h).2).2)
 |.cont,X,x,hX,hf,h=>sC_ (C:=λx=>PS X x (upS X.K (wpS Z .cont))) h λ_ _=>(by exact cf9)
 |.dfn i np Nl cp b,X,x,hX,hf,h=>sD_ (C:=λx=>PS X x (upS X.K (wpS Z (.dfn i np Nl cp b)))) h λname args body dl rt tp scope ts bind p h=>by
  cases hp:V6 args with
  |none=>rw[hp]at h;exact(AI (an h).2).elim
  |some ps=>
   rw[hp]at h;obtain⟨z,j⟩:=an h;obtain⟨h0,j0⟩:=an (show(_&&_)=AC from j);obtain⟨h1,j1⟩:=an j0;obtain⟨h2,j2⟩:=an j1;obtain⟨h3,j3⟩:=an j2;obtain⟨h4,j4⟩:=an j3;obtain⟨h5,j5⟩:=an j4;clear h j j0 j1 j2 j3 j4;cases beq_iff_eq.1 h0;cases dl with
   |cons=>exact(AI z).elim
   |nil=>cases rt with
    |some=>exact(AI z).elim
    |none=>cases tp with
     |cons=>exact(AI z).elim
     |nil=>cases ts with
      |some=>exact(AI z).elim
      |none=>
       obtain⟨L,hc⟩:=hX.lam h4;obtain⟨a1,a2,a3,a4,a5⟩:=a03 hp;exact cp2 hX.nd (beq_iff_eq.1 h1) (ac5 h2) (hf _ (ac5 h2) (nt h3)) a1 a2 a4 L (be3 h5 hc (hm b scope Nl body (an j5).2 (nt (an j5).1)) (λname qual cl doc pm cv ct us hl=>a5 name qual _ scope cl doc pm cv ct us hl))
 |.dead,X,x,hX,hf,h=>λ_ _ _ _ _ _⟨_,_,_,_,_,ht,_⟩=>ht.elim
 |.pass,X,x,hX,hf,h=>sP_ (C:=λx=>PS X x (upS X.K (wpS Z .pass))) h λ_ _=>(by exact b91)
theorem T9(Z:Sg)(hm:∀(b:Ss)(sc:BS)(N:List Str)(l:List Bf),mSs b sc N l=AC->N.contains t9=AF->Tbs.mt b sc N (.stmts l)):∀(l:Ss)(X:Cx)(xs:List Bf),XOk Z X->HF X->mSs l X.env.scope X.N xs=AC->PSs X xs (upS X.K (l5 Z l))
 |.nil,X,xs,hX,hf,h=>by
  cases xs with
  |nil=>exact cy2
  |cons=>exact(AI h).elim
 |.cons s r,X,xs,hX,hf,h=>by
  cases xs with
  |nil=>exact(AI h).elim
  |cons x xs=>
   rw[l5];exact ch9 (db5 Z hm s X _ hX hf (an h).1) (T9 Z hm r X _ hX hf (an h).2)
end
end Ek
namespace Ek
open PySem PySem.Spec PyProof.Rows L2
variable [Tbs]
variable{mg:Str->Option AG}{h:BI}{f c m:Str}{st:Bf}{ps:List Str}{fa a:AH}{od:Option AH}{sl:Array (Option AG)}{oc dc pm cd ct:AG}{n:Nat}{fd:Bt}{H:Hp}{X:Cx}
abbrev mB:Ss->BS->List Str->List Bf->Bool:=mSs
structure Stat0(st:Bf)(d:Def)(ps:List Str):Prop where
 sc:FnScope d.N ps (o9 st)
 np:ps.length=d.np
 body:mB d.body (o9 st) d.N (B7 st)=AC
structure Stat(st:Bf)(d:Def)(ps:List Str)(x f:Str):Prop extends Stat0 st d ps where
 bind:∀(kV doc pm:AG)(an:Option AH)(cdv ct:AG)(us:List AG),us.length=ps.length->EG (Dh x f (D3 st) (B7 st) (o9 st) .none kV doc pm an cdv ct) ⟨us,[]⟩=pure (ps.zip us)
structure FunD(K:AQ)(x qual:Str)(st:Bf)(f:AH)(fd:Bt):Prop where
 ex:∃(oc:AG)(od:Option AH)(dV kV doc pm:AG)(an:Option AH)(cdv ct:AG)(osl:Array (Option AG)),
  fd=Dh x qual (D3 st) (B7 st) (o9 st) dV kV doc pm an cdv ct/\K.lookup f=AA ⟨oc,od,.func fd,osl⟩/\Di K cdv qual=AC
 kp:CI K (.ref f)=AC
structure DefAt(K:AQ)(f:Str)(d:Def)(a:AH)(fd:Bt)(ps:List Str):Prop where
 ex:∃(st:Bf)(x:Str),FunD K x f st a fd/\Stat0 st d ps
 bd:y0 K fd ps []
 lam:d.N.contains t9=AC->∃c P,fd.code=.ref c/\CY K c P=AC/\P∈Tbs.ps
structure DefOk(K:AQ)(mg:Str->Option AG)(f:Str)(d:Def):Prop where
 ex:∃(a:AH)(fd:Bt)(ps:List Str),DefAt K f d a fd ps/\mg f=AA (.ref a)/\BJ K AO f=AA (AA (.ref a))/\∀us:List AG,us.length=ps.length->EG fd ⟨us,[]⟩=pure (ps.zip us)
structure MthOk(K:AQ)(mg:Str->Option AG)(df:Option Int)(c m:Str)(d:Def):Prop where
 ex:∃(Ca a:AH)(fd:Bt)(ps:List Str),DefAt K (f9 c m) d a fd ps/\BJ K AO c=AA (AA (.ref Ca))/\mg c=AA (.ref Ca)/\Cls K Ca/\Meth K Ca m a/\(m="__init__"->Mk K Ca a)/\∀i,df=AA i->∃tk,y0 K fd ps [.int i tk]
 nom:BJ K AO (f9 c m)=AA AD
theorem O0:∀{a b d c},46 ∉d->46 ∉c->a++46::b=d++46::c->a=d/\b=c
 |[],b,[],c,_,_,h=>⟨rfl,by simpa using h⟩
 |[],b,x::d,c,i,_,h=>by
  simp_all
 |x::a,b,[],c,_,g,h=>by
  simp at h;exact absurd (h.2▸BQ _ Bw) g
 |x::a,b,y::d,c,i,g,h=>by
  simp at h;obtain⟨e,f⟩:=O0 (λz=>i (As _ z)) g h.2;exact⟨by rw[h.1,e],f⟩
def cl5{K:AQ}{d:Def}{b:Option AH}{a:AG}(X:K.In h)(G:h.Ns AO mg)(S:Stat st d ps f f)
  (e:BJ K AO f=AA (AA (.ref fa))) (i:K.lookup fa=AA ⟨oc,od,.func (Dh f f (D3 st) (B7 st) (o9 st) .none a dc pm b cd ct),sl⟩) (k:Di K cd f=AC) (j:CI K (.ref fa)=AC)
  (g:d.N.contains t9=AC->∃c P,cd=.ref c/\CY K c P=AC/\P∈Tbs.ps:=by exact λh=>absurd h (by decide+kernel)):DefOk K mg f d:=
 ⟨fa,_,ps,⟨⟨st,f,⟨⟨_,_,_,_,_,_,_,_,_,_,rfl,i,k⟩,j⟩,S.toStat0⟩,.all (S.bind a dc pm b cd ct),g⟩,IX X G e,e,S.bind a dc pm b cd ct⟩
def cq8{K:AQ}{d:Def}{a:AH}{i:Option AH}{e:AG}{g:Option Int}(X:K.In h)(G:h.Ns AO mg)(S:Stat st d ps m (f9 c m))
  (p:BJ K AO (f9 c m)=AA AD) (j:BJ K AO c=AA (AA (.ref a))) (n:Cls K a) (f:Meth K a m fa) (hi:m="__init__"->Mk K a fa)
  (l:K.lookup fa=AA ⟨oc,od,.func (Dh m (f9 c m) (D3 st) (B7 st) (o9 st) .none e dc pm i cd ct),sl⟩) (o:Di K cd (f9 c m)=AC)
  (k:d.N.contains t9=AC->∃c P,cd=.ref c/\CY K c P=AC/\P∈Tbs.ps:=by exact λh=>absurd h (by decide+kernel)) (b:g=AD:=by decide+kernel):MthOk K mg g c m d:=
 ⟨⟨a,fa,_,ps,⟨⟨st,m,⟨⟨_,_,_,_,_,_,_,_,_,_,rfl,l,o⟩,f.kp⟩,S.toStat0⟩,.all (S.bind e dc pm i cd ct),k⟩,j,IX X G j,n,f,hi,λi h=>by rw[b]at h;cases h⟩,p⟩
def ca5{K:AQ}{d:Def}{b T:AH}{j t:Option AH}{e:Array (Option AG)}{f u:AG}{q:Option Int}{i:Int}{tk:Tok}(X:K.In h)(G:h.Ns AO mg)(S:Stat0 st d ps)
  (p:∀(s:AJ)(o:Obj)(n:Nat),s.heap.get? T=AA o->o.data=.seq #[.int i tk] n->(∀a:List AG,a.length=ps.length->Gr s (Dh m (f9 c m) (D3 st) (B7 st) (o9 st) (.ref T) f dc pm j cd ct) ⟨a,[]⟩ (ps.zip a))/\∀a:List AG,a.length+1=ps.length->Gr s (Dh m (f9 c m) (D3 st) (B7 st) (o9 st) (.ref T) f dc pm j cd ct) ⟨a,[]⟩ (ps.zip (a++[.int i tk])))
  (z:BJ K AO (f9 c m)=AA AD) (r:BJ K AO c=AA (AA (.ref b))) (x:Cls K b) (l:Meth K b m fa) (hi:m="__init__"->Mk K b fa)
  (w:K.lookup fa=AA ⟨oc,od,.func (Dh m (f9 c m) (D3 st) (B7 st) (o9 st) (.ref T) f dc pm j cd ct),sl⟩) (y:Di K cd (f9 c m)=AC) (k:K.lookup T=AA ⟨u,t,.seq #[.int i tk] n,e⟩)
  (v:d.N.contains t9=AC->∃c P,cd=.ref c/\CY K c P=AC/\P∈Tbs.ps:=by exact λh=>absurd h (by decide+kernel)) (g:q=AA i:=by decide+kernel):MthOk K mg q c m d:=
 ⟨⟨b,fa,_,ps,⟨⟨st,m,⟨⟨_,_,_,_,_,_,_,_,_,_,rfl,w,y⟩,l.kp⟩,S⟩,λs a hK hl=>by
   rw[Ao]at hl ⊢;exact(p s _ _ (hK _ _ k) rfl).1 a hl,v⟩,r,IX X G r,x,l,hi,λj h=>by
   rw[g]at h;cases h;exact⟨tk,λs a hK hl=>(p s _ _ (hK _ _ k) rfl).2 a (by simpa using hl)⟩⟩,z⟩
def DefAt.binds{K:AQ}{d:Def}(D:DefAt K f d a fd ps):y0 K fd ps []:=D.bd
theorem DefAt.kp{K}{d}(D:DefAt K f d a fd ps):CI K (.ref a)=AC:=by
 obtain⟨b,x,F,S⟩:=D.ex;exact F.kp
structure AllOk(Pr:Al)(w:Ay)(K:AQ)(mg:Str->Option AG)(P:i9)(G:Gs):Prop where
 fns:∀f d,P f=AA d->isM f=AF->DefOk K mg f d
 mts:∀f d,P f=AA d->isM f=AC->∃c m,f=f9 c m/\isM c=AF/\isM m=AF/\MthOk K mg (E5 G.cls (f9 c m)) c m d
 cls:∀f c Ca,BJ K AO c=AA (AA (.ref Ca))->f∈G.cls c->Cls K Ca/\M4 K Ca f
 blt:∀b∈ab0,mg b=AD
 tabs:∀g,G.tab g≠[]->GTab Pr w K mg g (G.tab g)
 cst:∀g d,G.cst g=AA d->∃u,mg g=AA u/\R0 K d u=AC
 isc:∀c∈G.cls "!is",∃Ca,mg c=AA (.ref Ca)/\IscOk K c Ca
 kt:Tbs.kt=(G.cls "!kt").isEmpty
def b69:isM (f9 c m)=AC:=by
 unfold isM f9;simp
def b66{c' m'}(d:isM c'=AF)(b:isM m'=AF)(h:f9 c m=f9 c' m'):c=c'/\m=m':=by
 unfold isM at d b;unfold f9 at h;have a:=congrArg (λs=>s.cps.toList) h;simp only[FJ,BV]at a;have e:=O0 (by simp_all) (by simp_all) a;exact⟨by cases c;cases c';simpa using e.1,by cases m;cases m';simpa using e.2⟩
def AllOk.mth{Pr}{w}{K}{P}{G}(h:AllOk Pr w K mg P G){d}(e:P (f9 c m)=AA d):MthOk K mg (E5 G.cls (f9 c m)) c m d:=by
 obtain⟨i,g,f,b,a,M⟩:=h.mts _ d e b69;obtain⟨rfl,rfl⟩:=b66 b a f;exact M
def bw9{K}{d}{ds}{vs}(r:IsDs K H ds vs):RelE K H (ai2 d ds) (L2.C2 d.N vs):=a01 r
def bc5{pins}{b:L2.St}{s}(I:L2.Inv X pins b H s)(a:∀x,X.fn x=AC)(g k:Str->Bool)e:L2.Inv {X with fn:=g,ow:=k,xe:=e} pins b H s:=
 ⟨⟨I.ok.mod,I.ok.kind,I.ok.glob,I.ok.blt,I.ok.above,I.ok.inj,I.ok.has,λx c _=>I.ok.cab x c (.inl (a x)),I.ok.hd,I.ok.frames,I.ok.stk,I.ok.exf,I.ok.bs,I.ok.bsz,I.ok.noex,I.ok.exfs,I.ok.funs,I.ok.frf⟩,I.os,I.bare,I.base,I.loc,I.cell,I.free,
  λx c h=>.inl ((I.freeC x c h).resolve_right λz=>by simp_all),I.pin,I.hok,I.len⟩
abbrev Cxa(X:Cx):Cx:={X with fn:=λ_=>AC}
def cb0{pins}{a:L2.St}{s}(I:L2.Inv (Cxa X) pins a H s):L2.Inv X pins a H s:=bc5 I (λ_=>rfl) X.fn X.ow X.xe
abbrev bp1(X:Cx)(l:List Bf)(t:TS):Prop:=∀(pins:List (AH×Obj))(s:AJ)(σ:L2.St)(H:Hp)(D:Ends),Inv (Cxa X) pins σ H s->t D σ H->AR (model X.prog X.w) X.A (execs l X.env) (SP X pins D) X.xe s
def de9(Z:Sg)(d:∀(b:Ss)(c:BS)(N:List Str)(l:List Bf),mSs b c N l=AC->N.contains t9=AF->Tbs.mt b c N (.stmts l))(e:XOk Z X)(f:HF X):∀(l:Ss)(a:List Bf),mB l X.env.scope X.N a=AC->bp1 X a (upS X.K (l5 Z l)):=λl a h pins s σ H D I q=>T9 Z d l X a e f h pins s σ H D (cb0 I) q
abbrev cxF(P:Al)(w:Ay)(K:AQ)(mg:Str->Option AG)(base:BI)(N:List Str)(qual:Str)(scope:BS)(f:AH)(cd:AG)(A:BW)(outer:List Env)(s:AJ)(H:Hp):Cx:=
 {aj6 CX0 P w K mg base N qual scope f cd A outer s H E0 with fn:=λy=>!(N.contains (B6 y)),ow:=λ_=>AC,xe:=λ_ _=>False}
def cn0{P:Al}{w:Ay}{K:AQ}{d:BI}{k:Nat}{f:AH}{x c:Str}{N:List Str}{sp:Sp}(F:FunD K x c st f fd)(S:FnScope N ps (o9 st))
  (p:∀g H Q E,sp g H Q E->g.length=ps.length)
  (l:∀(A:BW)(a:List Env)(s:AJ)(H:Hp)(g:List V)(Q:VK)(E:XK),Room k (A.deeper (HK c (o9 st) s.heap.objs.size f fd.code))->sp g H Q E ->
   ∃t,bp1 (cxF P w K mg d N c (o9 st) f fd.code A a s H) (B7 st) t/\t {nx:=λ_ i=>Q .non i,rt:=Q} (L2.C2 N g) H) :
  FnOk P w K mg d CX0 (k+1) f fd ps sp:=by
 obtain⟨oc,od,dV,kV,Z,pm,an,m,ct,O,rfl,R,D⟩:=F.ex;refine⟨p,λA a s H args us g Q E hr e0 hb r hsp=>?_⟩;have Y:=p _ _ _ _ hsp;have L:K.In s.heap:=e0.mod.kin.keeps λb o e=>(e0.bs b o e).1;have C:s.heap.NoLimit:=e0.mod.nolimit.keeps λb o e=>(e0.bs b o e).1;have j:∀y∈ps.zip us,(o9 st).names.lookup y.1=AA .local\/((o9 st).names.lookup y.1=AA .cell/\((Kf (s.heap.objs.size+1) (o9 st).names []).lookup y.1).isSome=AC):=λ⟨n,v⟩T=>by
  rcases S.par n (Gc T).1 with q|q
  ·exact .inl q
  ·exact .inr ⟨q,Jn _ _ _ (.inl q)⟩
 refine codeAny_call_function hr.depth (L _ _ R) rfl S.co S.gen rfl (W.codeRec_of L D) (hb _ _ _ _ ?_);refine wpAny_newFunctionEnv_cells S.kind j λenv he s1 x=>?_;subst he;refine⟨C.keeps x.toInCall.keep,codeAny_func ?_⟩;obtain⟨t,U,X⟩:=l A a s H g Q E (hr.deeper _) hsp;have I0:Inv (aj6 CX0 P w K mg d N c (o9 st) f m A a s H E0) [] (L2.C2 N g) H s1:=b08 S hr.hd e0 Y r x;have I:Inv (Cxa (cxF P w K mg d N c (o9 st) f m A a s H)) [] (L2.C2 N g) H s1:=bc5 I0 (λ_=>rfl) _ _ _;refine Bq (U [] s1 (L2.C2 N g) H _ I X) (λfl s' hs=>?_) λe s' hs=>AU hs;have z:∀{h:L2.St}{i:Hp}{v:V}{u:AG},Inv (cxF P w K mg d N c (o9 st) f m A a s H) [] h i s'->i8 v u->Q v i->CE a P w H s Q u s':=
  λ{h i v u}J B q=>⟨v,i,J.os,J.bare,J.base,J.hok,B,q⟩
 cases fl with
 |ret u=>
  obtain⟨v,h,i,J,B,q⟩:=hs;exact z J B q
 |next=>
  obtain⟨h,i,J,q⟩:=hs;exact z (v:=V.non) (u:=Bz) J rfl q
 |brk=>
  obtain⟨_,_,_,q⟩:=hs;exact AU q
 |cont=>
  obtain⟨_,_,_,q⟩:=hs;exact AU q
section
variable {Pr:Al} {w:Ay} {K:AQ} {base:BI} {P:i9} {G:Gs}
structure LvOk(Pr:Al)(w:Ay)(K:AQ)(mg:Str->Option AG)(base:BI)(P:i9)(G:Gs)(n:Nat):Prop where
 fn:∀m,m<=n->∀(f:Str)(d:Def),P f=AA d->∀(a:AH)(fd:Bt)(ps:List Str),DefAt K f d a fd ps->FnOk Pr w K mg base CX0 m a fd ps (C8 K (sem P G m f))
 clo:∀np N b cs fa fd ps,CloF fd np N ps b->FnOk Pr w K mg base CX0 n fa fd ps (ad0 K fa fd np N cs (O8 P G n np N b cs))
@[reducible]noncomputable def Zl(P:i9)(G:Gs)(n:Nat):Sg:=⟨λf=>(P f).isSome,sem P G n,G.tab,G.cls,(A8 P G n).2.1,λf=>(A8 P G n).2.2.1&&(P f).isSome,O8 P G n,G.cst⟩
def bl8(k:AllOk Pr w K mg P G)(L:LvOk Pr w K mg base P G n)(y:X.prog=Pr)(v:X.w=w)(d:X.K=K)(l:X.mg=mg)(B:X.base=base)(u:Room n X.A)(calm:X.calm=AC)(xe:X.xe=λ_ _=>False)(nd:X.N.Nodup)
  (lam:X.N.contains t9=AC->LamOk X/\∀x,X.N.contains (B6 x)=AC->X.fn x=AF/\X.ow x=AC)
  (U:∀b E N S,mFB b E N S->Tbs.mt b E N S):XOk (Zl P G n) X where
 calm:=calm
 xe:=xe
 units:=by have:=u.un;lia
 nd:=nd
 blt:=by rw[l];exact k.blt
 fns:=λg hi hg=>by
  obtain⟨q,a⟩:=Bh.mp hg;obtain⟨o,f,h,p,H,F,_⟩:=(k.fns g q a hi).ex;refine⟨n,o,f,h,?_,u,by rw[l];exact H,by rw[d];exact p.kp,by rw[d];exact p.binds,by rw[d];exact F⟩;rw[y,v,d,l,B];exact L.fn n (Ab _) g q a o f h p
 nom:=λg ga hg hn=>by
  obtain⟨q,a⟩:=Bh.mp hg;cases e:isM g with
  |false=>rfl
  |true=>
   obtain⟨c,m,rfl,_,_,M⟩:=k.mts g q a e;rw[d,M.nom]at hn;cases hn
 cls:=by rw[d];exact k.cls
 mth:=λm c Ca hc hg=>by
  obtain⟨q,a⟩:=Bh.mp hg;obtain⟨t,o,f,h,p,j,s,D,C,I,_⟩:=(k.mth a).ex;rw[d,j]at hc;cases hc;refine⟨n,o,f,h,by rw[d];exact D,by rw[d];exact C,?_,u,by rw[d];exact p.binds⟩;rw[y,v,d,l,B];exact L.fn n (Ab _) _ q a o f h p
 mthd:=λm c Ca i hc hg hi=>by
  obtain⟨q,a⟩:=Bh.mp hg;obtain⟨t,o,f,h,p,j,s,D,C,I,W⟩:=(k.mth a).ex;rw[d,j]at hc;cases hc;obtain⟨T,V⟩:=W i hi;refine⟨n,o,f,h,T,by rw[d];exact D,by rw[d];exact C,?_,u,by rw[d];exact V⟩;rw[y,v,d,l,B];exact L.fn n (Ab _) _ q a o f h p
 mks:=λc hg=>by
  simp only[BL]at hg;obtain⟨q,a⟩:=Bh.mp hg.2;obtain⟨t,o,f,h,p,j,s,D,C,I,_⟩:=(k.mth a).ex;cases n with
  |zero=>exact absurd hg.1 AI
  |succ m=>
   refine⟨t,m,o,f,h,by rw[d];exact j,by rw[d];exact I rfl,?_,u,by rw[l];exact s,by rw[d];exact p.binds⟩;rw[y,v,d,l,B];exact L.fn m (Ik _) _ q a o f h p
 tabs:=by rw[y,v,d,l];exact k.tabs
 cst:=by rw[d,l];exact k.cst
 isc:=by rw[d,l];exact k.isc
 kt:=k.kt
 lam:=lam
 mtE:=λe E N x h1 h2=>U _ _ _ _ ⟨h2,e,rfl,h1⟩
 clo:=λnp N b cs fa fd ps cf=>⟨n,by rw[y,v,d,l,B];exact L.clo np N b cs fa fd ps cf,u⟩
def ca3:LvOk Pr w K mg base P G 0:=by
 refine⟨λm hm f d hf a fd ps D=>?_,λnp N b cs fa fd ps cf=>?_⟩
 ·obtain rfl:m=0:=by lia
  have e:∀vs H Q E,¬C8 K (sem P G 0 f) vs H Q E:=λvs H Q E h=>by
   obtain⟨i,l,j,_,_,h,_⟩:=h;exact h
  exact⟨λvs H Q E h=>absurd h (e vs H Q E),λA outer s H args us vs Q E _ _ _ _ h=>absurd h (e vs H Q E)⟩
 ·have e:∀vs H Q E,¬ad0 K fa fd np N cs (O8 P G 0 np N b cs) vs H Q E:=λvs H Q E h=>by
   obtain⟨g,i,k,j,_,_,_,_,h,_⟩:=h;exact h
  exact⟨λvs H Q E h=>absurd h (e vs H Q E),λA outer s H args us vs Q E _ _ _ _ h=>absurd h (e vs H Q E)⟩
def cc2(hA:AllOk Pr w K mg P G)(W:X8 mg base)(X:K.In base)(u:∀b j N p,mFB b j N p↔Tbs.mt b j N p)(L:LvOk Pr w K mg base P G n):LvOk Pr w K mg base P G (n+1):=by
 have r:∀(b:Ss)(j:BS)(N:List Str)(l:List Bf),mSs b j N l=AC->N.contains t9=AF->Tbs.mt b j N (.stmts l):=λb j N l h1 h2=>(u _ _ _ _).mp ⟨h2,h1⟩;refine⟨λm hm f d hf a fd ps D=>?_,λnp N b cs fa fd ps cf=>?_⟩
 ·by_cases V:m<=n
  ·exact L.fn m V f d hf a fd ps D
  obtain rfl:m=n+1:=by lia
  obtain⟨st,x,F,S⟩:=D.ex;refine cn0 F S.sc (λvs H Q E h=>?_) (λA outer s H vs Q E hr h=>?_)
  ·obtain⟨ds,s0,Qd,O,_,T,_⟩:=h;obtain⟨d',i,hl,_⟩:=T;rw[hf]at i;cases i;rw[<-O.len,hl,S.np]
  ·obtain⟨ds,s0,Qd,O,rs,T,hq⟩:=h;obtain⟨d',i,hl,C⟩:=T;rw[hf]at i;cases i;have I:XOk (Zl P G n) (cxF Pr w K mg base d.N f (o9 st) a fd.code A outer s H):=bl8 hA L rfl rfl rfl rfl rfl hr rfl rfl S.sc.nd (λhl=>by
    obtain⟨c,P',e1,e2,e3⟩:=D.lam hl;refine⟨⟨⟨c,P',e1,Kz X e2,e3⟩,W⟩,λx hx=>⟨?_,rfl⟩⟩;show(!(d.N.contains (B6 x)))=AF;have R:d.N.contains (B6 x)=AC:=hx;rw[R];rfl) λb j N p=>(u b j N p).mp
   have Y:HF (cxF Pr w K mg base d.N f (o9 st) a fd.code A outer s H):=λy _ hy=>.inl (by
    show(!(d.N.contains (B6 y)))=AC;have o:d.N.contains (B6 y)=AF:=hy;rw[o];rfl)
   refine⟨_,de9 _ r I Y d.body _ S.body,ai2 d ds,s0,_,bw9 O,rs,C,λenv σ H' st' ev hE hS q=>?_,λenv σ H' st' ev hE hS q=>q.elim,λenv σ H' st' ev hE hS q=>q.elim,λv e H' st' ev is' rs' q=>?_⟩
   ·obtain⟨M,g,q⟩:=q;exact hq _ .non H' M (ev.drop g) .non (hS.sub g) q
   ·obtain⟨M,g,q⟩:=q;exact hq v e H' M (ev.drop g) is' (rs'.sub g) q
 ·refine cu6 (Z:=Zl P G n) cf λq A outer s H hr=>?_;obtain⟨U,k⟩:=(u _ _ _ _).mpr cf.mt;have I:XOk (Zl P G n) (cxC Pr w K mg base N fd.scope fd.closure q fa fd.code A outer s H):=bl8 hA L rfl rfl rfl rfl rfl hr rfl rfl cf.sc.nd (λhl=>by
   have t:N.contains t9=AC:=hl;rw[U]at t;cases t) λb j N p=>(u b j N p).mp
  have Y:HF (cxC Pr w K mg base N fd.scope fd.closure q fa fd.code A outer s H):=λy hy _=>by
   have o:fd.scope.names.lookup y=AA .local\/fd.scope.names.lookup y=AA .cell:=hy
   rcases o with z|z
   ·exact .inr z
   ·exact absurd rfl (cf.sc.nocell _ (PySem.mem_of_lookup z))
  cases C:fd.body with
  |stmts l=>rw[C]at k;exact T9 _ r b _ l I Y k
  |expr x=>
   rw[C]at k;obtain⟨e,rfl,he⟩:=k;exact⟨e,rfl,(g9 _ e _ x I he).v⟩
theorem bl0(f:AllOk Pr w K mg P G)(a:X8 mg base)(c:K.In base)(e:∀b d N g,mFB b d N g↔Tbs.mt b d N g):∀n,LvOk Pr w K mg base P G n
 |0=>ca3
 |n+1=>cc2 f a c e (bl0 f a c e n)
end
abbrev st0(a:AH)(ns:List Int):Sto:=λb=>if b=a then AA (.fro (ns.map D.int))else AD
theorem a68{K}:∀a:List Int,IsDs K H (a.map D.int) (a.map V.int)
 |[]=>.nil
 |n::r=>.cons (.int n) (a68 r)
abbrev W3(K:AQ):Bool:=K.all λp=>!(p.2.cls==.type "list")
def a06{K}{o}(h:W3 K=AC)(e:K.lookup a=AA o):o.cls≠.type "list":=by
 unfold W3 at h;rw[EL]at h;have g:(a,o)∈K:=by
  induction K with
  |nil=>cases e
  |cons p r f=>
   obtain⟨b,x⟩:=p;rw[EJ]at e;cases q:a==b with
   |true=>simp_all
   |false=>rw[q]at e;exact As _ (f (λp hp=>h p (As _ hp)) e)
 have:=h _ g;simpa using this
end Ek
namespace Ek
open PySem PySem.Spec PyProof.Rows L2
def b02{P:Al}{w:Ay}{K:AQ}{l R:Str->Option AG}{k:Nat}{fa a:AH}{fd:Bt}{x:Str}{sp:Sp}{c:AJ}{vs:List AG}{ns:List Int}{ts:List AH}
  (KX:K.In c.heap) (A:c.heap.Ns AO l) (i:c.heap.Ns DG R) (W:∀x:Str,x≠"__name__"->R x=Bn x) (B:c.heap.NoLimit) (U:X8 l c.heap) (hg:c.gens=#[])
  (C:c.heap.get? a=AA {cls:=.type "list",data:=.seq vs.toArray}) (hi:Iu vs ns) (hl:ns.length<=sizeLine) (hr:Room k Hs)
  (I:∀P∈ts,c.heap.get? P=AA (Hk #[])/\isCodeTable c.heap P) (X:∀P∈ts,K.lookup P=AD) (Y:K.lookup a=AD)
  (F:∀g:BI,K.In g->g.Ns AO l->X8 l g->FnOk P w K l g CX0 k fa fd [x] sp) (t:∀(s:AJ)(u:AG),Gr s fd ⟨[u],[]⟩ [(x,u)])
  (S:∀H:Hp,(∀P∈ts,H P=AA (.tbl #[]))->SqL K H a (ns.map V.int)->sp [.ref a] H (λv _=>v=.bl AC) λ_ _ _=>False) :
  EC (model P w) Hs (.call (.ref fa) ⟨[.ref a],[]⟩) (λr s'=>r=.ok (.ret (.bool AC))/\OldK c.heap s'.heap/\s'.os=c.os/\Go s'.gens) c:=by
 have rv:=a75 hi;have Q:a∉ts:=λz=>by
  have:=(I a z).1;rw[C]at this;cases this
 let H:Hp:=λb=>if b=a then AA (.frz {cls:=.type "list",data:=.seq vs.toArray} (.lst (ns.map V.int)))else if b∈ts then AA (.tbl #[])else AD
 have N:H a=AA (.frz {cls:=.type "list",data:=.seq vs.toArray} (.lst (ns.map V.int))):=if_pos rfl;have Ht:∀P∈ts,H P=AA (.tbl #[]):=λP hP=>by
  have ne:P≠a:=λz=>Q (z▸hP);show(if P=a then _ else if P∈ts then _ else _)=_;rw[if_neg ne,if_pos hP]
 have M:∀b u,H b=AA u->b=a\/b∈ts:=λb u e=>by
  by_cases L:b=a
  ·exact .inl L
  ·by_cases J:b∈ts
   ·exact .inr J
   ·have e':(if b=a then AA (HO.frz {cls:=.type "list",data:=.seq vs.toArray} (.lst (ns.map V.int)))else if b∈ts then AA (.tbl #[])else AD)=AA u:=e;rw[if_neg L,if_neg J]at e';cases e'
 have T:HOk P w H c.heap:=λb u e=>by
  rcases M b u e with rfl|i
  ·rw[N]at e;cases e;exact⟨C,by rw[AT];exact hl,vs,_,rv,C⟩
  ·rw[Ht b i]at e;cases e;exact(I b i).1
 have G2:∀{b:AH}{o:Obj},c.heap.get? b=AA o->H b=AD->(M8 c.heap H).get? b=AA o:=λe n=>b81 e n;have f:∀b o,c.heap.get? b=AA o->(∀O n,o.data≠.seq O n)->(∀O,o.data≠.fields O)->H b=AD:=λb o e n1 n2=>by
  cases q:H b with
  |none=>rfl
  |some u=>
   rcases M b u q with rfl|i
   ·rw[C]at e;cases e;exact absurd rfl (n1 _ _)
   ·rw[(I b i).1]at e;cases e;exact absurd rfl (n2 _)
 have j:∀{b:AH}{m:Str->Option AG},c.heap.Ns b m->(M8 c.heap H).Ns b m:=λ{b m}⟨o,es,ep,e,d,r⟩=>⟨o,es,ep,G2 e (f b o e (by rw[d];exact λ_ _=>nofun) (by rw[d];exact λ_=>nofun)),d,r⟩;have D:K.In (M8 c.heap H):=λb o e=>G2 (KX b o e) (by
  cases q:H b with
  |none=>rfl
  |some u=>
   rcases M b u q with rfl|i
   ·rw[Y]at e;cases e
   ·rw[X b i]at e;cases e)
 have Z:X8 l (M8 c.heap H):=by
  obtain⟨bm,ob,b1,b2,b3,b4,b5,b6⟩:=U;exact⟨bm,ob,b1,b2,G2 b3 (f bm ob b3 (by rw[b6];exact λ_ _=>nofun) (by rw[b6];exact λ_=>nofun)),b4,b5,b6⟩
 have hM:Mod K l (M8 c.heap H):=⟨D,j A,⟨R,j i,W⟩,let⟨mc,L,J⟩:=B;⟨mc,j L,J⟩⟩;have e0:Env0 P w K l (M8 c.heap H) Hs [] c H:=⟨rfl,hM,λb o e=>cg4 e,Kb (bx4 _ _),trivial,λb i=>absurd (show b∈([]:List AH) from i) ∎,T,.of_eq hg⟩;refine Gu ((F _ D (j A) Z).run Hs [] c H ⟨[.ref a],[]⟩ [.ref a] [.ref a] _ _ hr e0 (t c (.ref a)) (.cons rfl .nil) (S H Ht (.inl (.inr ⟨_,N⟩)))) λr s' h=>?_;cases r with
 |error e=>exact AU h
 |ok fl=>
  cases fl with
  |next=>exact AU h
  |brk=>exact AU h
  |cont=>exact AU h
  |ret u=>
   obtain⟨v,H',os,E,G,p,r',q⟩:=h;have q':v=.bl AC:=q;subst q';obtain rfl:u=Fa AC:=r';refine⟨rfl,⟨λb o e=>?_,λb o e=>G.there b o e ∎⟩,os,E⟩;cases q:H b with
   |none=>exact .inl (G.keep b o e q (by intro z;exact absurd (show b∈([]:List AH) from z) ∎) ∎)
   |some u=>
    rcases M b u q with rfl|i
    ·rw[N]at q;cases q;have z2:=G.frzs b _ _ N;obtain⟨e2,_⟩:=p b _ z2;rw[C]at e;cases e;exact .inl e2
    ·obtain⟨t1,t2⟩:=I b i;rw[t1]at e;cases e;obtain⟨y,z⟩:=G.tbls b _ (Ht b i);have e2:=p b _ z;exact .inr (.inl ⟨t2,rfl,#[],y,rfl,e2⟩)
def br7 [Tbs]{K}{h}{a}{o}(X:K.In h)(c:W3 K=AC)(e:h.get? a=AA o)(d:o.cls=.type "list"):K.lookup a=AD:=by
 cases q:K.lookup a with
 |none=>rfl
 |some b=>
  have:=X a b q;rw[e]at this;cases this;exact absurd d (a06 c q)
def cf6{l:W.OpenLaw}{q:Al}{i:List Str}{XP:(Str->Option AG)->BI->Prop}{Q:Ay->BI->Prop}{d:DefRec}{K:Params->AQ}{P:i9}{G:Gs}{n:Nat}{x:Str}{dl:Def}{ts:List AH}
  (Z:l.most=AA 63) (E:d.params.defaults=[]) (D:d.name="law") (X:Room n Hs) (hY:∀(w:Ay)(h:BI),Q w h->(K w.params).In h/\∀P∈ts,h.get? P=AA (Hk #[])) (N:P "law"=AA dl)
  (C:∀B v,Stat0 B dl v->v=[x])
  (F:∀(w:Ay)(A:Str->Option AG)(h:BI),(K w.params).In h->h.Ns AO A->(letI:Tbs:=⟨ts,mFB,(G.cls "!kt").isEmpty⟩;AllOk l.prog w (K w.params) A P G)/\W3 (K w.params)=AC/\JB (K w.params)=AC/\∀P∈ts,∃c,CY (K w.params) c P=AC)
  (s:∀(a:AH)(p:List Int),p.length<=63->sem P G n "law" [.ref a] (st0 a p) λd _=>d=.bl AC) :
  W.WalkO q i XP Q l.row.toRowW d [] (λf vs=>PySem.call f vs):=by
 letI:Tbs:=⟨ts,mFB,(G.cls "!kt").isEmpty⟩
 refine Att.attach_call Z E λw s₀ s₁ A mb fa o pm cd doc a vs p GG Y ho hd hcd hmg hobj hints hlen hg=>?_;obtain⟨t,j⟩:=hY w _ Y;obtain⟨O,r,k,hC⟩:=F w A _ t GG.T.g;obtain⟨ad,fd,v,R,mf,_,I⟩:=(O.fns "law" dl N (by decide+kernel)).ex;obtain⟨B,y,Ff,Sf⟩:=R.ex;have e:=C B v Sf;subst e;rw[D]at hmg;have ea:fa=ad:=by lia
 subst ea;have M:(K w.params).lookup a=AD:=br7 t r hobj rfl;refine b02 (ts:=ts) (sp:=C8 (K w.params) (sem P G n "law")) t GG.T.g GG.T.b GG.T.builtins GG.T.nolimit GG.T.bmain hg hobj hints (Bd hlen ∅) X (λP hP=>⟨j P hP,?_⟩) (λP hP=>?_) M (λbase J hbg hbm=>(bl0 O hbm J (λ_ _ _ _=>Iff.rfl) n).fn n (Ab _) "law" dl N fa fd [x] R) (λs u=>.of_eq (I [u] rfl)) (λH hH L=>?_)
 ·obtain⟨c,H⟩:=hC P hP;exact((Kz t H).tab (j P hP)).isCodeTable
 ·cases qq:(K w.params).lookup P with
  |none=>rfl
  |some U=>
   have z:=t P U qq;rw[j P hP]at z;cases z;unfold JB at k;rw[EL]at k;exact absurd (k _ (W.mem_of_lookupK qq)) AI
 ·refine⟨[.ref a],st0 a p,_,.cons (.ref a) .nil,⟨λb o e=>?_,λP hP=>⟨#[],hH P hP,trivial,λpos cv z=>by cases z⟩⟩,s a p hlen,λv d' H' st' ev is rs q=>?_⟩
  ·unfold st0 at e
   split at e
   ·rename_i J;cases e;subst J
    rcases L with L|⟨ob,V,m,hk,H,_⟩
    ·exact⟨_,L,a68 p⟩
    ·exact absurd H (a06 r hk)
   ·cases e
  ·have S:d'=.bl AC:=q;subst S;cases is;rfl
abbrev b95(P:AH)(o:Obj):Bool:=match o with
 |⟨.type "code",_,.fields vs,_⟩=>(match(vs[11]?:Option AG)with|some (.ref P')=>P'==P|_=>AF)
 |_=>AF
abbrev ax1(K:AQ)(ts:List AH):Bool:=ts.all λP=>match K.find? λp=>b95 P p.2 with
 |some p=>CY K p.1 P
 |none=>AF
def ci2{K}{ts}(h:ax1 K ts=AC):∀P∈ts,∃c,CY K c P=AC:=λP hP=>by
 unfold ax1 at h;rw[EL]at h;have:=h P hP
 split at this
 ·exact⟨_,this⟩
 ·cases this
abbrev av6(K:AQ)(cd:AG):Option (AH×AH):=match cd with
 |.ref c=>(match K.lookup c with
  |some ⟨_,_,.fields vs,_⟩=>(match(vs[11]?:Option AG)with|some (.ref P)=>AA (c,P)|_=>AD)
  |_=>AD)
 |_=>AD
def cq2{K:AQ}{a:AG}{c P:AH}{ts:List AH}(h:av6 K a=AA (c,P))(b:CY K c P=AC)(d:ts.contains P=AC):∃c P,a=.ref c/\CY K c P=AC/\P∈ts:=by
 unfold av6 at h
 split at h
 ·split at h
  ·split at h
   ·cases h;exact⟨_,_,rfl,b,by simp_all⟩
   ·cases h
  ·cases h
 ·cases h
end Ek
namespace Ek
open PySem L2
def R5 s:AV s=⟨(s.toList.map Fl).toArray⟩:=by
 unfold AV;rw[cpsOfBytes_string]
def bs9:∀(x y:Char),x.toNat=y.toNat->x=y:=λx y h=>Char.ext (UInt32.toNat_inj.mp h)
theorem a58:∀(a b:List Char),a.map Fl=b.map Fl->a=b
 |[],[],_=>rfl
 |[],_::_,h=>by simp at h
 |_::_,[],h=>by simp at h
 |x::a,y::b,h=>by
  simp at h;rw[bs9 x y h.1,a58 a b h.2]
def p5{a b:String}:(AV a=AV b)=(a=b):=by
 refine propext ⟨λh=>?_,λh=>by rw[h]⟩;rw[R5,R5]at h;simp only[Str.mk.injEq]at h;have c:a.toList.map Fl=b.toList.map Fl:=by simpa using h
 exact String.toList_inj.mp (a58 _ _ c)
def F7 s:(D.str (AV s)).pure=AC:=by
 show Ji (AV s)=AC;unfold Ji;rw[R5];simp;intro c _;have h:=c.valid;show c.val.toNat<1114112;lia
variable{L:List AH}{st st':Sto}{a b c e v:E}{p:AH}{o u:Ob}{Q:DK}{f g:Str}{np i:Nat}{N:List Str}{es:Es}
abbrev Kp(L:List AH)(st st':Sto):Prop:=∀b o,b∉L->st b=AA o->st' b=AA o
def Kp.refl:Kp L st st:=λ_ _ _ h=>h
def Kp.trans{a b c}(x:Kp L a b)(y:Kp L b c):Kp L a c:=λd o n h=>y d o n (x d o n h)
def Kp.more{M}{a b}(x:Kp L a b)(s:∀d∈L,d∈M):Kp M a b:=λd o n=>x d o λz=>n (s d z)
def Kp.new(x:Kp L st st')(h:st' p=AD):Kp L st (c9 st' p o):=λd u n e=>by
 have a:=x d u n e;rwa[G1 λz=>by grind]
def Kp.put(x:Kp L st st')(h:p∈L):Kp L st (c9 st' p o):=λd u n e=>by
 rw[G1 λz=>n (by rwa[z])];exact x d u n e
def Kp.at'{b}(x:Kp L st st')h(n):=x b o n h
def i7{a}(h:st a=AA o)(b:st p=AD):c9 st p u a=AA o:=by
 rwa[G1 λz=>by grind]
def j9{a:AH}(h:st a=AA o)(b:st p=AD):a≠p:=λz=>by rw[z,b]at h;cases h
def f8{a}(h:st a=AA o)(n:a≠p):c9 st p u a=AA o:=G1 n▸h
def S6{a}:c9 (c9 st a o) a u=c9 st a u:=by
 funext b;unfold c9;split<;>rfl
abbrev D8(st:Sto)(a:AH):Prop:=∃l:List Int,st a=AA (.lst (l.map .int))
def D8.new{b}(h:D8 st b)(a:st p=AD):D8 (c9 st p u) b:=let⟨l,e⟩:=h;⟨l,i7 e a⟩
def D8.ne{b}(h:D8 st b)(a:st p=AD):=let⟨l,e⟩:=h;j9 e a
abbrev o5(Q:DK):DEnds:={nx:=λ_ st'=>∃s2,Sub s2 st'/\Q .non s2,rt:=λd st'=>∃s2,Sub s2 st'/\Q d s2}
def f7{d:D}(h:Q d st):(o5 Q).rt d st:=⟨st,Sub.refl st,h⟩
def be6{env}(h:Q .non st):(o5 Q).nx env st:=⟨st,Sub.refl st,h⟩
@[reducible]noncomputable def Zg(P:i9)(G:Gs)(n:Nat):Sg:=⟨λf=>(P f).isSome,sem P G n,G.tab,G.cls,(A8 P G n).2.1,λf=>(A8 P G n).2.2.1&&(P f).isSome,O8 P G n,G.cst⟩
def i5{P}{G}{n}{fd}{ds}(c:P f=AA fd)(a:ds.length=fd.np)env(b:ai2 fd ds=env)
  (h:l5 (Zg P G n) fd.body (o5 Q) env st):sem P G (n+1) f ds st Q:=(⟨fd,c,a,by rwa[b]⟩)
def ab5{P}{G}{n}{b}{cs ds}(a:ds.length=np)env(c:Q2 N ds cs=env)
  (h:l5 (Zg P G n) b (o5 Q) env st):O8 P G (n+1) np N b cs ds st Q:=⟨a,c▸h⟩
section
variable {Z:Sg} {F:DEnds} {env:j8} 
def cs5{s:S}{r:Ss}:l5 Z (.cons s r) F env st=wpS Z s ⟨l5 Z r F,F.rt,F.bk,F.ct⟩ env st:=rfl
def c24:l5 Z .nil F env st=F.nx env st:=rfl
def c85:wpS Z (.set i e) F env st=wpE Z e env st λd st1=>F.nx (env.set i (AA d)) st1:=rfl
def cw0{o i}:wpS Z (.dput o i v) F env st=wpE Z v env st λd st1=>wpE Z o env st1 λx st2=>wpE Z i env st2 λy st3=>av4 x y d st3 λst4=>F.nx env st4:=rfl
def c90{o i}:wpS Z (.put o i v) F env st=wpE Z v env st λd st1=>wpE Z o env st1 λx st2=>wpE Z i env st2 λy st3=>∃a j k b,x=.ref a/\y=.int j/\st3 a=AA (.lst b)/\ixN b.length j=AA k/\F.nx env (c9 st3 a (.lst (b.set k d))):=rfl
def dg1:wpS Z (.ex e) F env st=wpE Z e env st λ_ st1=>F.nx env st1:=rfl
def c74{a b}:wpS Z (.iff c a b) F env st=wpE Z c env st λd st1=>∃k,d=.bl k/\if k=AC then l5 Z a F env st1 else l5 Z b F env st1:=rfl
def c18:wpS Z (.ret e) F env st=wpE Z e env st F.rt:=rfl
def cp1:wpS Z .retN F env st=F.rt .non st:=rfl
def c66{t}{it}{b}:wpS Z (.for t it b) F env st=A5 Z it env st λitems chk st1=>A7 chk t (l5 Z b) F items env st1:=rfl
def cz2:wpS Z .cont F env st=F.ct env st:=rfl
def cv1:wpS Z .pass F env st=F.nx env st:=rfl
def c29:wpE Z .non env st Q=Q .non st:=rfl
def dc3{b:Bool}:wpE Z (.bl b) env st Q=Q (.bl b) st:=rfl
def bn8{i:Int}:wpE Z (.int i) env st Q=Q (.int i) st:=rfl
def c46{x:Str}:wpE Z (.str x) env st Q=Q (.str x) st:=rfl
def e_v:wpE Z (.v i) env st Q=∃d,env[i]?=AA (AA d)/\Q d st:=rfl
def c12:wpE Z (.tup es) env st Q=p7 Z es env st λds st1=>Q (.tup ds) st1:=rfl
def c42:wpE Z (.lst es) env st Q=p7 Z es env st λds st1=>∀p,st1 p=AD->Q (.ref p) (c9 st1 p (.lst ds)):=rfl
def c17{o}:wpE Z (.bin o a b) env st Q=wpE Z a env st λx st1=>wpE Z b env st1 λy st2=>C9 o x y st2 Q:=rfl
def c51:wpE Z (.neg a) env st Q=wpE Z a env st λx st1=>∃i,x=.int i/\Q (.int (-i)) st1:=rfl
def c56{o}:wpE Z (.cmp o a b) env st Q=wpE Z a env st λx st1=>wpE Z b env st1 λy st2=>o8 o x y st2 Q:=rfl
def c45:wpE Z (.isN a) env st Q=wpE Z a env st λx st1=>x=.non/\Q (.bl AC) st1\/x≠.non/\Q (.bl AF) st1:=rfl
def cl2:wpE Z (.notN a) env st Q=wpE Z a env st λx st1=>x=.non/\Q (.bl AF) st1\/x≠.non/\Q (.bl AC) st1:=rfl
def da2:wpE Z (.and a b) env st Q=wpE Z a env st λx st1=>∃c,x=.bl c/\(if c=AC then wpE Z b env st1 Q else Q (.bl AF) st1):=rfl
def db3:wpE Z (.or a b) env st Q=wpE Z a env st λx st1=>∃c,x=.bl c/\if c=AC then Q (.bl AC) st1 else wpE Z b env st1 Q:=rfl
def c65:wpE Z (.not a) env st Q=wpE Z a env st λx st1=>∃c,x=.bl c/\Q (.bl !c) st1:=rfl
def c10:wpE Z (.ite c a b) env st Q=wpE Z c env st λx st1=>∃k,x=.bl k/\if k=AC then wpE Z a env st1 Q else wpE Z b env st1 Q:=rfl
def de5:wpE Z (.ix a b) env st Q=wpE Z a env st λx st1=>wpE Z b env st1 λy st2=>ixR x y st2 Q:=rfl
abbrev bnd(Z:Sg)(e:E)(env:j8)(st:Sto):(Option Int->Sto->Prop)->Prop:=if e.isNon=AC then λk=>k AD st else λk=>wpE Z e env st λd st'=>∃i,d=.int i/\k (AA i) st'
def ce1{k}:bnd Z .non env st k=k AD st:=rfl
def P7{k}(h:e.isNon=AF):bnd Z e env st k=wpE Z e env st λd st'=>∃i,d=.int i/\k (AA i) st':=by
 unfold bnd;rw[h];rfl
def cd6{i}{k}:bnd Z (.int i) env st k=k (AA i) st:=propext ⟨λ⟨_,h,q⟩=>by simp_all,λq=>⟨_,rfl,q⟩⟩
def df8{lo hi}:wpE Z (.sl a lo hi) env st Q=wpE Z a env st λx st1=>bnd Z lo env st1 λl st2=>bnd Z hi env st2 λh st3=>slR x l h st3 Q:=rfl
def cs7{ks}{vs}{k}:wpE Z (.dsel ks vs k) env st Q=p7 Z vs env st λds st1=>wpE Z k env st1 λx st2=>∃w d,x=.str w/\p6 (ks.zip ds) w=AA d/\Q d st2:=rfl
def cw1{k}:wpE Z (.gsel g k) env st Q=(Z.G g≠[]/\wpE Z k env st λx st1=>∃w d,x=.str w/\p6 (Z.G g) w=AA d/\Q d st1):=rfl
def c59:wpE Z (.len a) env st Q=wpE Z a env st λx st1=>U7 x st1 Q:=rfl
def b93:wpE Z (.toInt a) env st Q=wpE Z a env st λx st1=>ac2 x st1 Q:=rfl
def cw3:wpE Z (.list a) env st Q=wpE Z a env st λx st1=>ai6 x st1 Q:=rfl
def b96:wpE Z (.tuple a) env st Q=wpE Z a env st λx st1=>W8 x st1 Q:=rfl
def c76:wpE Z (.min a b) env st Q=wpE Z a env st λx st1=>wpE Z b env st1 λy st2=>∃i j,x=.int i/\y=.int j/\Q (.int (if j<i then j else i)) st2:=rfl
def c94:wpE Z (.max a b) env st Q=wpE Z a env st λx st1=>wpE Z b env st1 λy st2=>∃i j,x=.int i/\y=.int j/\Q (.int (if j>i then j else i)) st2:=rfl
def cr1:wpE Z (.call f es) env st Q=(Z.F f=AC/\p7 Z es env st λds st1=>Z.Phi f ds st1 Q):=rfl
def dc9:wpE Z (.gf f) env st Q=(Z.F f=AC/\Q (.fn f) st):=rfl
def cd7:wpE Z (.callx c es) env st Q=wpE Z c env st λx st1=>∃f,x=.fn f/\Z.F f=AC/\p7 Z es env st1 λds st2=>Z.Phi f ds st2 Q:=rfl
def cv8{k d}:wpE Z (.gget g k d) env st Q=(Z.G g≠[]/\wpE Z k env st λx st1=>wpE Z d env st1 λy st2=>∃w,x=.str w/\Q ((p6 (Z.G g) w).getD y) st2):=rfl
def c21:wpE Z (.fld a f) env st Q=wpE Z a env st λx st1=>∃p c b d,x=.ref p/\st1 p=AA (.ins c b)/\f∈Z.C c/\b.lookup f=AA d/\Q d st1:=rfl
def cy5{m}:wpE Z (.meth a m es) env st Q=wpE Z a env st λx st1=>∃p c b,x=.ref p/\st1 p=AA (.ins c b)/\b.lookup m=AD/\Z.F (f9 c m)=AC/\p7 Z es env st1 λds st2=>Z.Phi (f9 c m) (.ref p::ds) st2 Q:=rfl
def cm3{c}:wpE Z (.make c es) env st Q=(Z.MF (f9 c "__init__")=AC/\p7 Z es env st λds st1=>∀p,st1 p=AD->Z.Mk (f9 c "__init__") (.ref p::ds) (c9 st1 p (.ins c [])) λv st2=>v=.non/\Q (.ref p) st2):=rfl
def cm0{o:E}:wpS Z (.fldS o f v) F env st=wpE Z v env st λd st1=>wpE Z o env st1 λx st2=>∃p c a,x=.ref p/\st2 p=AA (.ins c a)/\f∈Z.C c/\a.length<1000/\F.nx env (c9 st2 p (.ins c (l9 f d a))):=rfl
def cp0:wpS Z .dead F env st=False:=rfl
def cc4:wpE Z (.callv i es) env st Q=∃x,env[i]?=AA (AA x)/\Y1 Z (p7 Z es env) st Q x:=rfl
def c20{ta}:Y1 Z ta st Q (.fn f)=(Z.F f=AC/\ta st λds st1=>Z.Phi f ds st1 Q):=rfl
def ck7{ta}{b}{cs}:Y1 Z ta st Q (.clo np N b cs)=ta st λds st1=>Z.PhiC np N b cs ds st1 Q:=rfl
abbrev U5(env:j8):List Nat->(List D->Prop)->Prop
 |[],k=>k []
 |i::is,k=>∃d,env[i]?=AA (AA d)/\U5 env is λds=>k (d::ds)
def b48{k:List D->Prop}:U5 env [] k=k []:=rfl
def a71{is}{k}:U5 env (i::is) k=∃d,env[i]?=AA (AA d)/\U5 env is λds=>k (d::ds):=rfl
theorem ai3:∀{e}{k},(∃c,K9 env e=AA c/\k c)=U5 env e k
 |[],k=>propext ⟨λ⟨_,h,q⟩=>by cases h;exact q,λq=>⟨_,rfl,q⟩⟩
 |i::j,k=>by
  refine propext ⟨λ⟨c,h,q⟩=>?_,λ⟨d,f,q⟩=>?_⟩
  ·unfold K9 at h
   split at h
   ·rename_i d b g a;cases h;exact⟨d,g,(ai3)▸⟨b,a,q⟩⟩
   ·cases h
  ·rw[<-ai3]at q;obtain⟨b,a,q⟩:=q;exact⟨d::b,by unfold K9;rw[f,a],q⟩
def c34{cp}:wpE Z (.lam np N cp e) env st Q=U5 env cp λcs=>Q (.clo np N (.cons (.ret e) .nil) cs) st:=ai3
def c27{cp}{b}:wpS Z (.dfn i np N cp b) F env st=U5 env cp λcs=>F.nx (env.set i (AA (.clo np N b cs))) st:=ai3
def de4:wpE Z (.gc g) env st Q=∃d,Z.Kc g=AA d/\Q d st:=rfl
def cr0{ks:List Str}{vs:Es}:wpE Z (.dict ks vs) env st Q=p7 Z vs env st λds st1=>∀p,st1 p=AD->Q (.ref p) (c9 st1 p (.dct ((ks.zip ds).map λkv=>(.inr kv.1,kv.2)))):=rfl
def cz4{ne}:wpE Z (.cmpl ne a b) env st Q=wpE Z a env st λx st1=>wpE Z b env st1 λy st2=>U1 ne x y st2 Q:=rfl
def c95:wpE Z (.app a b) env st Q=wpE Z a env st λx st1=>F0 x st1/\wpE Z b env st1 λy st2=>ae0 x y st2 Q:=rfl
def c22:wpE Z (.ext a b) env st Q=wpE Z a env st λx st1=>F0 x st1/\wpE Z b env st1 λy st2=>Y8 x y st2 Q:=rfl
def cb5:wpE Z (.popAt a b) env st Q=wpE Z a env st λx st1=>F0 x st1/\wpE Z b env st1 λy st2=>au5 x y st2 Q:=rfl
def c39:wpE Z (.pop a) env st Q=wpE Z a env st λx st1=>ae4 x st1 Q:=rfl
def ce9{m}:wpE Z (.methd a m es) env st Q=wpE Z a env st λx st1=>∃p c b i,x=.ref p/\st1 p=AA (.ins c b)/\b.lookup m=AD/\Z.F (f9 c m)=AC/\E5 Z.C (f9 c m)=AA i/\p7 Z es env st1 λds st2=>Z.Phi (f9 c m) (.ref p::(ds++[.int i])) st2 Q:=rfl
def c44:wpE Z (.inl a b) env st Q=wpE Z a env st λx st1=>wpE Z b env st1 λy st2=>U6 x y st2 Q:=rfl
def da3:wpE Z .dnt env st Q=(Z.C "!kt"≠[]/\∀p,st p=AD->Q (.ref p) (c9 st p (.dtt []))):=rfl
def db1:wpE Z (.dgt a b) env st Q=wpE Z a env st λx st1=>ax7 x st1/\wpE Z b env st1 λy st2=>ax5 x y st2 Q:=rfl
def c15{ne}:wpE Z (.din ne a b) env st Q=wpE Z a env st λx st1=>wpE Z b env st1 λy st2=>U8 ne x y st2 Q:=rfl
def c04:wpE Z (.lrl a) env st Q=wpE Z a env st λx st1=>ad7 x st1 Q:=rfl
def cm1:wpE Z (.lrev a) env st Q=wpE Z a env st λx st1=>ae3 x st1 Q:=rfl
def ci5:wpE Z (.index a b) env st Q=wpE Z a env st λx st1=>ae1 x st1/\wpE Z b env st1 λy st2=>S9 x y st2 Q:=rfl
def cs3{Q:List D->Sto->Prop}:p7 Z .nil env st Q=Q [] st:=rfl
def cc8{r}{Q}:p7 Z (.cons e r) env st Q=wpE Z e env st λd st1=>p7 Z r env st1 λds st2=>Q (d::ds) st2:=rfl
abbrev O6(Z:Sg)(c:E):DB:=if c.isNon=AC then λ_ st Q=>Q AC st else λenv st Q=>wpE Z c env st λd st'=>∃b,d=.bl b/\Q b st'
def cm2{b:List Str}{fr:List Nat}{k:Nat}{t:Tg}{a:It}:wpE Z (.comp b fr k t a c e) env st Q=A5 Z a env st λitems chk st1=>items.length<=1000000/\B1 chk t (O6 Z c) (λenv st Q=>wpE Z e env st Q) (λacc st'=>∀p,st' p=AD->Q (.ref p) (c9 st' p (.lst acc))) items [] (S8 fr k env) st1:=rfl
variable {k:ItK}
def c58:A5 Z (.seq e) env st k=wpE Z e env st λd st1=>(∃b,d=.tup b/\k b (λ_=>True) st1)\/∃a b,d=.ref a/\rdS st1 a b/\k b (λst'=>rdS st' a b) st1:=rfl
def c81:A5 Z (.rng a) env st k=wpE Z a env st λd st1=>∃j:Int,d=.int j/\(-2^62<=j/\j<2^62)/\k (z7 0 j.toNat) (λ_=>True) st1:=rfl
def cq7:A5 Z (.rng2 a b) env st k=wpE Z a env st λd st1=>wpE Z b env st1 λe st2=>∃i j:Int,d=.int i/\e=.int j/\(-2^62<=i/\i<2^62/\-2^62<=j/\j<2^62)/\k (z7 i (j-i).toNat) (λ_=>True) st2:=rfl
def c64:A5 Z (.zip a b) env st k=wpE Z a env st λd st1=>wpE Z b env st1 λe st2=>∃f c,z6 st2 d f/\z6 st2 e c/\k (E2 f c) (λst'=>z6 st' d f/\z6 st' e c) st2:=rfl
def cu5:A5 Z (.revt e) env st k=wpE Z e env st λd st1=>∃a,d=.tup a/\k a.reverse (λ_=>True) st1:=rfl
def cf4:A5 Z (.enumr e) env st k=wpE Z e env st λd st1=>∃a,d=.tup a/\k (B9 0 a.reverse) (λ_=>True) st1:=rfl
def c62:A5 Z (.rev e) env st k=wpE Z e env st λd st1=>∃a b,d=.ref a/\rdS st1 a b/\k b.reverse (λst'=>rdS st' a b) st1:=rfl
end
end Ek
namespace Ek
open PySem L2
variable{i:Int}{lo hi:Option Int}{chk:Sto->Prop}{env:j8}
section
variable {st:Sto} {Q:DK} {j:Int} {a p:AH} {ds es xs ys:List D} {x y d:D}
def de6{a}{r:j8}{Q:D->Prop}:(∃d,(AA a::r)[0]?=AA (AA d)/\Q d)=Q a:=propext ⟨λ⟨_,h,q⟩=>by simp_all,λq=>⟨a,rfl,q⟩⟩
def dh2{a}{r:j8}{i}{Q:D->Prop}:(∃d,(a::r)[i+1]?=AA (AA d)/\Q d)=∃d,r[i]?=AA (AA d)/\Q d:=rfl
def dc1{a}{Q:D->Prop}:(∃d,AA (AA a)=AA (AA d)/\Q d)=Q a:=propext ⟨λ⟨_,h,q⟩=>by grind,λq=>⟨a,rfl,q⟩⟩
def c05{Q:Int->Prop}:(∃d,D.int i=.int d/\Q d)=Q i:=propext ⟨λ⟨_,h,q⟩=>⋯,λq=>⟨i,rfl,q⟩⟩
def de3{i}{Q:Bool->Prop}:(∃d,D.bl i=.bl d/\Q d)=Q i:=propext ⟨λ⟨_,h,q⟩=>⋯,λq=>⟨i,rfl,q⟩⟩
def c31{Q:List D->Prop}:(∃d,D.tup ds=.tup d/\Q d)=Q ds:=propext ⟨λ⟨_,h,q⟩=>⋯,λq=>⟨_,rfl,q⟩⟩
def ct0{b:Type}{a}{Q:b->Prop}:(∃d,AA a=AA d/\Q d)=Q a:=propext ⟨λ⟨_,h,q⟩=>by grind,λq=>⟨a,rfl,q⟩⟩
def cz9{i:Str}{l:List (Str×D)}{Q:D->Prop}:(∃w d,D.str i=.str w/\p6 l w=AA d/\Q d)=(∃d,p6 l i=AA d/\Q d):=propext ⟨λ⟨_,d,h,e,q⟩=>by cases h;exact⟨d,e,q⟩,λ⟨d,e,q⟩=>⟨_,d,rfl,e,q⟩⟩
def cq1{j}{Q:Int->Int->Prop}:(∃a b,D.int i=.int a/\D.int j=.int b/\Q a b)=Q i j:=propext ⟨λ⟨_,_,h,c,q⟩=>by grind,λq=>⟨_,_,rfl,rfl,q⟩⟩
def cv3:C9 .Add (.int i) (.int j) st Q=Q (.int (i+j)) st:=rfl
def ct1:C9 .Add (.tup xs) (.tup ys) st Q=(xs.length+ys.length<=sizeLine/\Q (.tup (xs++ys)) st):=rfl
def bl1{a b}:C9 .Add (.ref a) (.ref b) st Q=∃d c,st a=AA (.lst d)/\st b=AA (.lst c)/\d.length+c.length<=sizeLine/\∀p,st p=AD->Q (.ref p) (c9 st p (.lst (d++c))):=rfl
def cl0:C9 .Sub (.int i) (.int j) st Q=Q (.int (i-j)) st:=rfl
def cw4:C9 .Mult (.int i) (.int j) st Q=(U2 i j/\Q (.int (i*j)) st):=rfl
def bk5:C9 .Mod (.int i) (.int j) st Q=(0<j/\Q (.int (i % j)) st):=rfl
def cy8:C9 .FloorDiv (.int i) (.int j) st Q=(av1 i j/\Q (.int (i / j)) st):=rfl
def cl4:C9 .Pow (.int i) (.int j) st Q=(ax2 i j/\Q (.int (i^j.toNat)) st):=rfl
def as0:deq (.int i) (.int j)=AE (i=j):=rfl
def N8{x y}:deq (.str x) (.str y)=AE (x=y):=rfl
abbrev E9:List D->List D->Bool
 |[],[]=>AC
 |x::xs,y::ys=>deq x y&&E9 xs ys
 |_,_=>AF
theorem at7:∀b a,BY (D.pys b) (D.pys a)=E9 b a
 |[],[]=>rfl
 |[],_::_=>rfl
 |_::_,[]=>rfl
 |x::b,y::a=>by show(Av x.py y.py&&BY (D.pys b) (D.pys a))=_;rw[at7 b a];rfl
def W4:deq (.tup xs) (.tup ys)=E9 xs ys:=by
 show Av (.tuple (D.pys xs)) (.tuple (D.pys ys))=_;rw[Av,at7]
def X3:l8 (.int i)=0:=rfl
def D4{x:Str}:l8 (.str x)=0:=rfl
def c73:o8 .Eq (.int i) (.int j) st Q=Q (.bl (AE (i=j))) st:=propext ⟨λh=>h.2.2.2,λh=>⟨rfl,rfl,(Bx _),h⟩⟩
def aw6:o8 .NotEq (.int i) (.int j) st Q=Q (.bl !decide (i=j)) st:=propext ⟨λh=>h.2.2.2,λh=>⟨rfl,rfl,(Bx _),h⟩⟩
def aw4{x y:String}:o8 .Eq (.str (AV x)) (.str (AV y)) st Q=Q (.bl (AE (x=y))) st:=by
 show(_/\_/\_/\_)=_;simp only[N8,p5];exact propext ⟨λh=>h.2.2.2,λh=>⟨F7 _,F7 _,by rw[D4,D4];exact Bx _,h⟩⟩
def ad3{x y}:o8 .NotEq (.str (AV x)) (.str (AV y)) st Q=Q (.bl !decide (x=y)) st:=by
 show(_/\_/\_/\_)=_;simp only[N8,p5];exact propext ⟨λh=>h.2.2.2,λh=>⟨F7 _,F7 _,Bx _,h⟩⟩
def c43:o8 .Eq x y st Q=(x.pure=AC/\y.pure=AC/\EW (l8 x) (l8 y)<=150/\Q (.bl (deq x y)) st):=rfl
def da7:o8 .NotEq x y st Q=(x.pure=AC/\y.pure=AC/\EW (l8 x) (l8 y)<=150/\Q (.bl !deq x y) st):=rfl
def da1:o8 .Lt (.int i) (.int j) st Q=Q (.bl (AE (i<j))) st:=rfl
def da4:o8 .LtE (.int i) (.int j) st Q=Q (.bl (AE (i<=j))) st:=rfl
def c80:o8 .Gt (.int i) (.int j) st Q=Q (.bl (AE (j<i))) st:=rfl
def c32:o8 .GtE (.int i) (.int j) st Q=Q (.bl (AE (j<=i))) st:=rfl
def bo7:o8 .In x (.tup ys) st Q=(x.pure=AC/\D.pures ys=AC/\l8 x<=150/\Q (.bl (ys.any λy=>deq y x)) st):=rfl
def aw7{ns}:o8 .In (.int i) (.ktup ns) st Q=Q (.bl (AE (i∈ns))) st:=rfl
def c75:o8 .NotIn x (.tup ys) st Q=(x.pure=AC/\D.pures ys=AC/\l8 x<=150/\Q (.bl !ys.any λy=>deq y x) st):=rfl
def dd3:ixR (.tup ds) (.int i) st Q=∃d,atI ds i=AA d/\Q d st:=rfl
def de8:ixR (.ref a) (.int i) st Q=((∃c d,rdS st a c/\atI c i=AA d/\Q d st)\/∃b d,st a=AA (.dct b)/\G6 b (.inl i)=AA d/\Q d st):=rfl
def cw6{kvs}(h:rdS st a ds)(h':st a=AA (.dct kvs)):False:=by rcases h with h|h<;>rw[h]at h'<;>cases h'
def ah8(h:rdS st a xs)(h':rdS st a ys):xs=ys:=by
 rcases h with h|h<;>rcases h' with h'|h'<;>rw[h]at h'<;>cases h'<;>rfl
def n8(h:rdS st a ds):ixR (.ref a) (.int i) st Q=∃d,atI ds i=AA d/\Q d st:=propext ⟨λz=>z.elim (λ⟨b,d,r,q⟩=>(ah8 h r▸⟨d,q⟩)) λ⟨_,_,e,_⟩=>(cw6 h e).elim,λ⟨d,q⟩=>.inl ⟨ds,d,h,q⟩⟩
def U3:rdS (c9 st p (.lst ds)) p ds:=.inl f6
def c48:ixR (.ref p) (.int i) (c9 st p (.lst ds)) Q=∃d,atI ds i=AA d/\Q d (c9 st p (.lst ds)):=n8 U3
def ay2{α}{a:List α}:atI a 0=a[0]?:=by
 unfold atI ixN;simp;split
 ·rfl
 ·simp_all
def E1{α}{a:List α}{k:Nat}:atI a k=a[k]?:=by
 unfold atI ixN;rw[if_pos ⋯];split
 ·rfl
 ·simp_all
def dg2{b:Type}{a:List b}:atI a 1=a[1]?:=E1 (k:=1)
def db6{b:Type}{a:List b}:atI a 2=a[2]?:=E1 (k:=2)
def df3{b:Type}{a:List b}:atI a 3=a[3]?:=E1 (k:=3)
def c25:dc2 (.tup ds) lo hi st Q=Q (.tup (t5 ds lo hi)) st:=rfl
def bo4:slR (.tup ds) lo hi st Q=(¬(HT.sIx ds.length 0 lo=0/\HT.sIx ds.length ds.length hi=ds.length)/\Q (.tup (t5 ds lo hi)) st):=rfl
def bq1(h:rdS st a ds):slR (.ref a) lo hi st Q=∀p,st p=AD->Q (.ref p) (c9 st p (.lst (t5 ds lo hi))):=propext ⟨λ⟨b,r,q⟩=>ah8 h r▸q,λq=>⟨ds,h,q⟩⟩
def c77:U7 (.tup ds) st Q=Q (.int ds.length) st:=rfl
def z0(h:rdS st a ds):U7 (.ref a) st Q=Q (.int ds.length) st:=propext ⟨λ⟨b,r,q⟩=>ah8 h r▸q,λq=>⟨ds,h,q⟩⟩
def co7:U7 (.ref p) (c9 st p (.lst ds)) Q=Q (.int ds.length) (c9 st p (.lst ds)):=z0 U3
def c36{b:Bool}:ac2 (.bl b) st Q=Q (.int (if b then 1 else 0)) st:=rfl
def c11:ac2 (.int i) st Q=Q (.int i) st:=rfl
def cr3:ai6 (.tup ds) st Q=∀p,st p=AD->Q (.ref p) (c9 st p (.lst ds)):=rfl
def ci7:W8 (.tup ds) st Q=Q (.tup ds) st:=rfl
def bh1(h:rdS st a ds):W8 (.ref a) st Q=Q (.tup ds) st:=propext ⟨λ⟨b,r,q⟩=>ah8 h r▸q,λq=>⟨ds,h,q⟩⟩
def b33:W8 (.ref p) (c9 st p (.lst ds)) Q=Q (.tup ds) (c9 st p (.lst ds)):=bh1 U3
def c63(h:rdS st a ds):be1 (.ref a) st Q=Q (.bl AC) st:=propext ⟨λ⟨b,r,q⟩=>q,λq=>⟨ds,h,q⟩⟩
def cp7:be1 (.ref p) (c9 st p (.lst ds)) Q=Q (.bl AC) (c9 st p (.lst ds)):=c63 U3
def u0(h:rdS st a ds):F0 (.ref a) st=True:=propext ⟨λ_=>trivial,λ_=>⟨ds,h⟩⟩
def cb1:F0 (.ref p) (c9 st p (.lst ds))=True:=u0 U3
def cz7:ae1 (.tup ds) st=True:=rfl
def C6(h:st a=AA (.lst ds)):ae0 (.ref a) d st Q=(ds.length<sizeLine/\Q .non (c9 st a (.lst (ds++[d])))):=(propext ⟨λ⟨b,r,q⟩=>by simp_all,λq=>⟨ds,h,q⟩⟩)
def ad5{b:AH}(h:st a=AA (.lst ds))(h':st b=AA (.lst c)):Y8 (.ref a) (.ref b) st Q=(ds.length+c.length<=sizeLine/\Q .non (c9 st a (.lst (ds++c)))):=by
 show(∃ds c,st a=AA (.lst ds)/\st b=AA (.lst c)/\_)=_;exact propext ⟨λ⟨_,_,r,e,q⟩=>by rw[h]at r;rw[h']at e;cases r;cases e;exact q,λq=>⟨ds,c,h,h',q⟩⟩
def b89{t}{tb}{F}:A7 chk t tb F [] env st=(chk st/\F.nx env st):=by rw[A7]
def b29{t}{tb}{F}:A7 chk t tb F (d::ds) env st=(chk st/\O3 t d env λenv'=>tb {F with nx:=A7 chk t tb F ds,ct:=A7 chk t tb F ds,bk:=F.nx} env' st):=by rw[A7]
def W9{k}{K}:O3 (.n k) d env K=K (env.set k (AA d)):=rfl
def bk8{is}{K}:O3 (.tup is) (.tup ds) env K=(ds.length=is.length/\K (T2 env is ds)):=propext ⟨λ⟨a,r,q⟩=>by simp_all,λq=>⟨ds,rfl,q⟩⟩
def az5{k}{is}:T2 env (k::is) (d::ds)=T2 (env.set k (AA d)) is ds:=rfl
def a64:T2 env [] []=env:=rfl
def V8{t}{tc}{te}{R}{acc}:B1 chk t tc te R [] acc env st=(chk st/\R acc st):=by rw[B1]
def R8{t}{tc}{te}{R}{acc}:B1 chk t tc te R (d::ds) acc env st=(chk st/\O3 t d env λenv'=>tc env' st λb st1=>if b=AC then te env' st1 λv st2=>B1 chk t tc te R ds (acc++[v]) env' st2 else B1 chk t tc te R ds acc env' st1):=by rw[B1]
def c78{k:ItK}:((∃b,D.tup ds=.tup b/\k b (λ_=>True) st)\/(∃a b,D.tup ds=.ref a/\rdS st a b/\k b (λst'=>rdS st' a b) st))=k ds (λ_=>True) st:=
 propext ⟨(λh=>by
  rcases h with⟨b,r,q⟩|⟨a,b,r,_⟩
  ·cases r;exact q
  ·cases r),λq=>.inl ⟨ds,rfl,q⟩⟩
def di9{k:ItK}:((∃b,D.tup ds=.tup b/\k (B9 0 b) (λ_=>True) st)\/(∃a b,D.tup ds=.ref a/\rdS st a b/\k (B9 0 b) (λst'=>rdS st' a b) st))=k (B9 0 ds) (λ_=>True) st:=
 propext ⟨λh=>by
  simp_all,λq=>.inl ⟨ds,rfl,q⟩⟩
end
end Ek
namespace Ek
open PySem L2
theorem A0{chk}{t}{tb}{F}(I:List D->j8->Sto->Prop)(f:∀a b,I [] a b->chk b/\F.nx a b)
  (e:∀d c a b,(∀a b,I c a b->A7 chk t tb F c a b)->I (d::c) a b->chk b/\O3 t d a λenv'=>tb {F with nx:=A7 chk t tb F c,ct:=A7 chk t tb F c,bk:=F.nx} env' b):∀c a b,I c a b->A7 chk t tb F c a b
 |[],a,b,h=>f a b h
 |d::c,a,b,h=>e d c a b (A0 I f e c) h
theorem F9{chk}{t}{tc}{te}{R}(I:List D->List D->j8->Sto->Prop)(i:∀a c e,I [] a c e->chk e/\R a e)
  (g:∀d f a c e,(∀a c e,I f a c e->B1 chk t tc te R f a c e)->I (d::f) a c e->chk e/\O3 t d c λenv'=>tc env' e λb st1=>if b=AC then te env' st1 λv st2=>B1 chk t tc te R f (a++[v]) env' st2 else B1 chk t tc te R f a env' st1):∀f a c e,I f a c e->B1 chk t tc te R f a c e
 |[],a,c,e,h=>i a c e h
 |d::f,a,c,e,h=>g d f a c e (F9 I i g f) h
def ci8{Z}{env}{st}{K}:O6 Z .non env st K=K AC st:=rfl
def aa9{Z}{c}{env}{st}{K}(h:c.isNon=AF):O6 Z c env st K=wpE Z c env st λd st'=>∃b,d=.bl b/\K b st':=by unfold O6;rw[h];rfl
def T3{i j:Int}(h:-(2^64)<j/\j<2^64):U2 i j:=.inl (.inr h)
def ah6{i j:Int}(h:-(2^64)<i/\i<2^64):U2 i j:=.inl (.inl h)
def p9{n:Nat}(h:n<=16000000):n<=sizeLine:=Bd h ∅
def C4{n:Nat}(h:n<16000000):n<sizeLine:=Ar h ∅
end Ek
namespace Ek
abbrev Ss.drop:Nat->Ss->Ss
 |0,s=>s
 |_+1,.nil=>.nil
 |k+1,.cons _ r=>Ss.drop k r
def db8{ds}{R:PySem.Addr->List D->Prop}:(∃a b,D.tup ds=.ref a/\R a b)=False:=propext ⟨λ⟨_,_,h,_⟩=>(by cases h),AU⟩
def db9{a}{R:List D->Prop}:(∃b,D.ref a=.tup b/\R b)=False:=propext ⟨λ⟨_,h,_⟩=>(by cases h),AU⟩
def dh7{a:PySem.Addr}{R:PySem.Addr->List D->Prop}:(∃b c,D.ref a=.ref b/\R b c)=∃c,R a c:=propext ⟨λ⟨_,c,h,q⟩=>by cases h;exact⟨c,q⟩,λ⟨c,q⟩=>⟨a,c,rfl,q⟩⟩
end Ek
namespace Ek
open PySem L2
section
variable {Z:Sg} {env:j8} {st:Sto} {k:Option Int->Sto->Prop} {K:Bool->Sto->Prop} {a b:E}
def ce7{o}:bnd Z (.bin o a b) env st k=wpE Z (.bin o a b) env st λd st'=>∃i,d=.int i/\k (AA i) st':=P7 rfl
def c96{j}:bnd Z (.v j) env st k=wpE Z (.v j) env st λd st'=>∃i,d=.int i/\k (AA i) st':=P7 rfl
def b25{g}:bnd Z (.gsel g a) env st k=wpE Z (.gsel g a) env st λd st'=>∃i,d=.int i/\k (AA i) st':=P7 rfl
def ce2:bnd Z (.len a) env st k=wpE Z (.len a) env st λd st'=>∃i,d=.int i/\k (AA i) st':=P7 rfl
def b99:bnd Z (.neg a) env st k=wpE Z (.neg a) env st λd st'=>∃i,d=.int i/\k (AA i) st':=P7 rfl
def cq6:bnd Z (.ix a b) env st k=wpE Z (.ix a b) env st λd st'=>∃i,d=.int i/\k (AA i) st':=P7 rfl
def b72{f}{es}:bnd Z (.call f es) env st k=wpE Z (.call f es) env st λd st'=>∃i,d=.int i/\k (AA i) st':=P7 rfl
def b94{o:Dw}:O6 Z (.cmp o a b) env st K=wpE Z (.cmp o a b) env st λd st'=>∃b,d=.bl b/\K b st':=aa9 rfl
def cj5:O6 Z (.and a b) env st K=wpE Z (.and a b) env st λd st'=>∃b,d=.bl b/\K b st':=aa9 rfl
def cz3:O6 Z (.or a b) env st K=wpE Z (.or a b) env st λd st'=>∃b,d=.bl b/\K b st':=aa9 rfl
def cj0:O6 Z (.not a) env st K=wpE Z (.not a) env st λd st'=>∃b,d=.bl b/\K b st':=aa9 rfl
def b53{f}{es}:O6 Z (.call f es) env st K=wpE Z (.call f es) env st λd st'=>∃b,d=.bl b/\K b st':=aa9 rfl
end
def bf7{n d:Nat}:HT.sIx n d AD=d:=rfl
def av0{n d k:Nat}:HT.sIx n d (AA k)=min k n:=rfl
def au3{ds}{k:Nat}:t5 ds AD (AA k)=ds.take k:=by
 unfold t5;rw[bf7,av0]
 simp_all
def aa8{ds}{k:Nat}:t5 ds (AA k) AD=ds.drop k:=by
 unfold t5;rw[bf7,av0]
 by_cases h:k<=ds.length
 ·rw[HA h,CZ (by rw[EH];lia)]
 ·rw[Gg ⋯,Ep (Ab _),Ep ⋯,List.take_nil]
variable{st:Sto}{a:AH}{ds:List D}{Q:DK}
def da8{c:List D}(h:st a=AA (.lst b)):Y8 (.ref a) (.tup c) st Q=(b.length+c.length<=sizeLine/\Q .non (c9 st a (.lst (b++c)))):=by
 show(∃b,st a=AA (.lst b)/\_)=_;exact propext ⟨λ⟨_,r,q⟩=>by rw[h]at r;cases r;exact q,λq=>⟨b,h,q⟩⟩
def ca8{Z}{F}{env}{c}{b}:wpS Z (.while c b) F env st=∃n,B8 (wpT Z c) (l5 Z b) F n env st:=rfl
def ag8{Z}{e}{env}{K}:wpT Z e env st K=wpE Z e env st λd st'=>∃b,d=.bl b/\K b st':=rfl
def ap9{tc}{tb}{F}(I:Nat->j8->Sto->Prop)(f:∀m a d W,I m a d->(∀m' c e,m'<m->I m' c e->W c e)->tc a d λb st1=>if b=AC then tb {F with nx:=W,ct:=W,bk:=F.nx} a st1 else F.nx a st1):∀m a d,I m a d->∃n,B8 tc tb F n a d:=by
 have g:∀k m a d,m<=k->I m a d->B8 tc tb F (k+1) a d:=by
  intro k
  induction k with
  |zero=>
   intro m a d p h;exact f m a d _ h λm' c e hlt _=>by lia
  |succ k o=>
   intro m a d p h;exact f m a d _ h λm' c e hlt=>o m' c e ⋯
 exact λm a d h=>⟨m+1,g m m a d (Ab _) h⟩
def Q9{d}(h:st a=AA (.lst (ds++[d]))):ae4 (.ref a) st Q=Q d (c9 st a (.lst ds)):=by
 refine propext ⟨λ b=>?_,λq=>⟨ds,d,h,q⟩⟩;obtain⟨c,e,r,q⟩:=b;simp_all
def c70(h:st a=AA (.lst ds)):ae3 (.ref a) st Q=Q .non (c9 st a (.lst ds.reverse)):=(propext ⟨λ⟨_,r,q⟩=>by grind,λq=>⟨ds,h,q⟩⟩)
def di2{kvs}{w}(h:st a=AA (.dct kvs)):o8 .In (.str w) (.ref a) st Q=Q (.bl (G6 kvs (.inr w)).isSome) st:=(propext ⟨λ⟨_,r,q⟩=>⋯,λq=>⟨kvs,h,q⟩⟩)
def dc6{b:List (Key×D)}{w:Str}{d:D}(h:st a=AA (.dct b))(c:G6 b (.inr w)=AA d):ixR (.ref a) (.str w) st Q=Q d st:=by
 show(∃b d,st a=AA (.dct b)/\_)=_;exact propext ⟨λ⟨_,_,r,l,q⟩=>by rw[h]at r;cases r;rw[c]at l;cases l;exact q,λq=>⟨b,d,h,c,q⟩⟩
def dc7{f}{Q:Str->Prop}:(∃g,AA (AA (D.fn f))=AA (AA (.fn g))/\Q g)=Q f:=propext ⟨λ⟨_,h,q⟩=>by grind,λq=>⟨f,rfl,q⟩⟩
end Ek
namespace Ek
open PySem L2
variable{x:String}
section
variable {Z:Sg} {F:DEnds} {env:j8} {st:Sto} {Q:DK} {a b c e:D} {l:List D} {A B:Prop} {i:Nat} {s:S} {t u:Ss}
def aj0{n:Nat}{k:Int}(e:k=n)(h:l[n]?=AA a):ixR (.tup l) (.int k) st Q=Q a st:=by
 subst e;exact propext ⟨λ⟨_,b,q⟩=>by rw[E1,h]at b;cases b;exact q,λq=>⟨a,(E1▸h),q⟩⟩
def df6:ixR (.tup (a::l)) (.int 0) st Q=Q a st:=aj0 rfl rfl
def di3:ixR (.tup (b::a::l)) (.int 1) st Q=Q a st:=aj0 rfl rfl
def dg3:ixR (.tup (b::c::a::l)) (.int 2) st Q=Q a st:=aj0 rfl rfl
def dg4:ixR (.tup (b::c::e::a::l)) (.int 3) st Q=Q a st:=aj0 rfl rfl
def di8:(∃k,D.bl AC=.bl k/\if k=AC then A else B)=A:=propext ⟨λ⟨_,h,q⟩=>by simp_all,λq=>⟨_,rfl,q⟩⟩
def db4:(∃k,D.bl AF=.bl k/\if k=AC then A else B)=B:=propext ⟨λ⟨_,h,q⟩=>by cases h;exact q,λq=>⟨_,rfl,q⟩⟩
def c92:o8 .Eq (.str (AV x)) (.str (AV x)) st Q=Q (.bl AC) st:=by rw[aw4,decide_eq_true rfl]
def c13{y}(h:AE (x=y)=AF):o8 .Eq (.str (AV x)) (.str (AV y)) st Q=Q (.bl AF) st:=by rw[aw4,h]
def da9:o8 .NotEq (.str (AV x)) (.str (AV x)) st Q=Q (.bl AF) st:=by rw[ad3,decide_eq_true rfl];rfl
def c14{y}(h:AE (x=y)=AF):o8 .NotEq (.str (AV x)) (.str (AV y)) st Q=Q (.bl AC) st:=by rw[ad3,h];rfl
def dc5(h:wpS Z s ⟨l5 Z t F,F.rt,F.bk,F.ct⟩ env st):l5 Z (.cons s t) F env st:=h
end
end Ek
namespace Ek
open PySem L2
variable{m:Nat}
inductive Kd where
 |non|one|eith (a b:Kd)|both (a b:Kd)|way (a b:Kd)
 deriving DecidableEq
abbrev Kd.d:Kd->D
 |.non=>.tup [.str "none"]
 |.one=>.tup [.str "one"]
 |.eith a b=>.tup [.str "either",a.d,b.d]
 |.both a b=>.tup [.str "both",a.d,b.d]
 |.way a b=>.tup [.str "way",a.d,b.d]
abbrev Kd.cnt:Kd->Nat
 |.non=>0|.one=>1
 |.eith a b=>a.cnt+b.cnt
 |.both a b=>a.cnt*b.cnt
 |.way a b=>b.cnt^a.cnt
abbrev Kd.nest:Kd->Nat
 |.non=>0|.one=>0
 |.eith a b=>1+max a.nest b.nest
 |.both a b=>1+max a.nest b.nest
 |.way a b=>1+max a.nest b.nest
abbrev Kd.bd(m:Nat):Kd->Prop
 |.non=>True|.one=>1<=m
 |.eith a b=>a.bd m/\b.bd m/\a.cnt+b.cnt<=m
 |.both a b=>a.bd m/\b.bd m/\a.cnt*b.cnt<=m
 |.way a b=>a.bd m/\b.bd m/\b.cnt^a.cnt<=m
def Kd.bd_le:∀{k:Kd},k.bd m->k.cnt<=m
 |.non,_=>Bx _
 |.one,h=>h
 |.eith _ _,h=>h.2.2
 |.both _ _,h=>h.2.2
 |.way _ _,h=>h.2.2
theorem Kd.bd_mono{m'}(a:m<=m'):∀{k:Kd},k.bd m->k.bd m'
 |.non,_=>trivial
 |.one,h=>Bd h a
 |.eith _ _,h=>⟨bd_mono a h.1,bd_mono a h.2.1,Bd h.2.2 a⟩
 |.both _ _,h=>⟨bd_mono a h.1,bd_mono a h.2.1,Bd h.2.2 a⟩
 |.way _ _,h=>⟨bd_mono a h.1,bd_mono a h.2.1,Bd h.2.2 a⟩
def Q3{k:Kd}(h:k.bd m):∀a b,k=.eith a b\/k=.both a b\/k=.way a b->a.bd m/\b.bd m:=λa b e=>by
 rcases e with e|e|e<;>(subst e;exact⟨h.1,h.2.1⟩)
def cz0:∀a b:Kd,deq a.d b.d=AE (a=b):=by
 intro a
 induction a with
 |non=>intro b;cases b<;>simp[Kd.d,W4,E9,N8,p5]
 |one=>intro b;cases b<;>simp[Kd.d,W4,E9,N8,p5]
 |eith a c f e=>intro b;cases b<;>simp[Kd.d,W4,E9,N8,p5,f,e]
 |both a c f e=>intro b;cases b<;>simp[Kd.d,W4,E9,N8,p5,f,e]
 |way a c f e=>intro b;cases b<;>simp[Kd.d,W4,E9,N8,p5,f,e]
def V3{d}{r}:D.pures (d::r)=(d.pure&&D.pures r):=rfl
def aa5:D.pures []=AC:=rfl
def V9{r:List D}:(D.tup r).pure=D.pures r:=rfl
theorem Q0:∀k:Kd,k.d.pure=AC
 |.non=>by simp only[Kd.d,V9,V3,aa5,F7,Cm]
 |.one=>by simp only[Kd.d,V9,V3,aa5,F7,Cm]
 |.eith a b=>by simp only[Kd.d,V9,V3,aa5,F7,Q0 a,Q0 b,Cm]
 |.both a b=>by simp only[Kd.d,V9,V3,aa5,F7,Q0 a,Q0 b,Cm]
 |.way a b=>by simp only[Kd.d,V9,V3,aa5,F7,Q0 a,Q0 b,Cm]
abbrev y6:List D->Nat
 |[]=>0
 |d::r=>max (l8 d) (y6 r)
theorem ar5:∀l,BZ (D.pys l)=y6 l
 |[]=>rfl
 |d::r=>by show max (CC d.py) (BZ (D.pys r))=_;rw[ar5 r];rfl
def D9{l}:l8 (.tup l)=y6 l+1:=by
 show CC (.tuple (D.pys l))=_;rw[CC,ar5]
theorem T4:∀k:Kd,l8 k.d=k.nest+1
 |.non=>by rfl
 |.one=>by rfl
 |.eith a b=>by simp only[Kd.d,D9,y6,D4,Kd.nest,T4 a,T4 b,LX];lia
 |.both a b=>by simp only[Kd.d,D9,y6,D4,Kd.nest,T4 a,T4 b,LX];lia
 |.way a b=>by simp only[Kd.d,D9,y6,D4,Kd.nest,T4 a,T4 b,LX];lia
inductive Pg where
 |name (n:Nat)|star|pair (t u:Pg)|first (t:Pg)|second (t:Pg)|left (b:Kd) (t:Pg)|right (a:Kd) (t:Pg)
 |case (t u v:Pg)|way (a:Kd) (t:Pg)|give (t u:Pg)|lets (t u:Pg)|never (k:Kd) (t:Pg)
 deriving DecidableEq
abbrev Pg.d:Pg->D
 |.name n=>.tup [.str "name",.int n]
 |.star=>.tup [.str "star"]
 |.pair t u=>.tup [.str "pair",t.d,u.d]
 |.first t=>.tup [.str "first",t.d]
 |.second t=>.tup [.str "second",t.d]
 |.left b t=>.tup [.str "left",b.d,t.d]
 |.right a t=>.tup [.str "right",a.d,t.d]
 |.case t u v=>.tup [.str "case",t.d,u.d,v.d]
 |.way a t=>.tup [.str "way",a.d,t.d]
 |.give t u=>.tup [.str "give",t.d,u.d]
 |.lets t u=>.tup [.str "let",t.d,u.d]
 |.never k t=>.tup [.str "never",k.d,t.d]
abbrev Pg.kind(Γ:List Kd):Pg->Option Kd
 |.name n=>Γ[n]?
 |.star=>AA .one
 |.pair t u=>match t.kind Γ,u.kind Γ with
  |some a,AA b=>AA (.both a b)
  |_,_=>AD
 |.first t=>match t.kind Γ with
  |some (.both a _)=>AA a
  |_=>AD
 |.second t=>match t.kind Γ with
  |some (.both _ b)=>AA b
  |_=>AD
 |.left b t=>match t.kind Γ with
  |some a=>AA (.eith a b)
  |_=>AD
 |.right a t=>match t.kind Γ with
  |some b=>AA (.eith a b)
  |_=>AD
 |.case t u v=>match t.kind Γ with
  |some (.eith a b)=>match u.kind (a::Γ),v.kind (b::Γ)with
   |some k,AA l=>if k=l then AA k else AD
   |_,_=>AD
  |_=>AD
 |.way a t=>match t.kind (a::Γ)with
  |some b=>AA (.way a b)
  |_=>AD
 |.give t u=>match t.kind Γ,u.kind Γ with
  |some (.way a b),AA c=>if a=c then AA b else AD
  |_,_=>AD
 |.lets t u=>match t.kind Γ with
  |some a=>u.kind (a::Γ)
  |_=>AD
 |.never k t=>match t.kind Γ with
  |some .non=>AA k
  |_=>AD
abbrev Pg.kids:Pg->List Pg
 |.name _=>[]|.star=>[]
 |.pair t u=>[t,u]|.first t=>[t]|.second t=>[t]|.left _ t=>[t]|.right _ t=>[t]
 |.case t u v=>[t,u,v]|.way _ t=>[t]|.give t u=>[t,u]|.lets t u=>[t,u]|.never _ t=>[t]
abbrev Pg.parts:Pg->Nat
 |.name _=>1|.star=>1
 |.pair t u=>1+t.parts+u.parts|.first t=>1+t.parts|.second t=>1+t.parts|.left _ t=>1+t.parts|.right _ t=>1+t.parts
 |.case t u v=>1+t.parts+u.parts+v.parts|.way _ t=>1+t.parts|.give t u=>1+t.parts+u.parts|.lets t u=>1+t.parts+u.parts|.never _ t=>1+t.parts
abbrev Pg.kn(m:Nat):Pg->Prop
 |.name _=>True|.star=>True
 |.pair t u=>t.kn m/\u.kn m|.first t=>t.kn m|.second t=>t.kn m|.left b t=>b.nest<=m/\t.kn m|.right a t=>a.nest<=m/\t.kn m
 |.case t u v=>t.kn m/\u.kn m/\v.kn m|.way a t=>a.nest<=m/\t.kn m|.give t u=>t.kn m/\u.kn m|.lets t u=>t.kn m/\u.kn m|.never k t=>k.nest<=m/\t.kn m
inductive Kn:List Kd->Pg->Kd->Prop
 |name {Γ n k}:Γ[n]?=AA k->Kn Γ (.name n) k
 |star {Γ}:Kn Γ .star .one
 |pair {Γ t u a b}:Kn Γ t a->Kn Γ u b->Kn Γ (.pair t u) (.both a b)
 |first {Γ t a b}:Kn Γ t (.both a b)->Kn Γ (.first t) a
 |second {Γ t a b}:Kn Γ t (.both a b)->Kn Γ (.second t) b
 |left {Γ t a b}:Kn Γ t a->Kn Γ (.left b t) (.eith a b)
 |right {Γ t a b}:Kn Γ t b->Kn Γ (.right a t) (.eith a b)
 |case {Γ t u v a b c}:Kn Γ t (.eith a b)->Kn (a::Γ) u c->Kn (b::Γ) v c->Kn Γ (.case t u v) c
 |way {Γ t a b}:Kn (a::Γ) t b->Kn Γ (.way a t) (.way a b)
 |give {Γ t u a b}:Kn Γ t (.way a b)->Kn Γ u a->Kn Γ (.give t u) b
 |lets {Γ t u a b}:Kn Γ t a->Kn (a::Γ) u b->Kn Γ (.lets t u) b
 |never {Γ t b}:Kn Γ t .non->Kn Γ (.never b t) b
theorem Kn.kind{Γ:List Kd}{p:Pg}{k:Kd}(h:Kn Γ p k):p.kind Γ=AA k:=by
 induction h with
 |name h=>exact h
 |star=>rfl
 |pair _ _ i j=>unfold Pg.kind;rw[i,j]
 |give _ _ i j=>unfold Pg.kind;rw[i,j];exact if_pos rfl
 |first _ i|second _ i|left _ i|right _ i|way _ i|never _ i=>unfold Pg.kind;rw[i]
 |lets _ _ i j=>unfold Pg.kind;rw[i];exact j
 |case _ _ _ i j l=>unfold Pg.kind;rw[i];show(match Pg.kind _ _,Pg.kind _ _ with|some k,AA l=>if k=l then AA k else AD|_,_=>AD)=_;rw[j,l];exact if_pos rfl
def c60:∀{p:Pg}{m:List Kd}{k:Kd},p.kind m=AA k->Kn m p k:=by
 intro p
 induction p with
 |name n=>exact λh=>.name h
 |star=>intro m k h;cases h;exact .star
 |pair t u i j=>
  intro m k h;unfold Pg.kind at h;cases e:t.kind m with
  |none=>rw[e]at h;cases h
  |some a=>cases f:u.kind m with
   |none=>rw[e,f]at h;cases h
   |some b=>rw[e,f]at h;cases h;exact .pair (i e) (j f)
 |first t i=>
  intro m k h;unfold Pg.kind at h;cases e:t.kind m with
  |none=>rw[e]at h;cases h
  |some a=>rw[e]at h;cases a<;>cases h;exact .first (i e)
 |second t i=>
  intro m k h;unfold Pg.kind at h;cases e:t.kind m with
  |none=>rw[e]at h;cases h
  |some a=>rw[e]at h;cases a<;>cases h;exact .second (i e)
 |left b t i=>
  intro m k h;unfold Pg.kind at h;cases e:t.kind m with
  |none=>rw[e]at h;cases h
  |some a=>rw[e]at h;cases h;exact .left (i e)
 |right b t i=>
  intro m k h;unfold Pg.kind at h;cases e:t.kind m with
  |none=>rw[e]at h;cases h
  |some a=>rw[e]at h;cases h;exact .right (i e)
 |case t u v i j l=>
  intro m k h;unfold Pg.kind at h;cases e:t.kind m with
  |none=>rw[e]at h;cases h
  |some a=>
   rw[e]at h;cases a<;>first|cases h;done|skip
   rename_i a b;replace h:(match u.kind (a::m),v.kind (b::m)with|some k,AA l=>if k=l then AA k else AD|_,_=>AD)=AA k:=h;cases f:u.kind (a::m)with
   |none=>rw[f]at h;cases h
   |some c=>cases g:v.kind (b::m)with
    |none=>rw[f,g]at h;cases h
    |some d=>
     rw[f,g]at h
     by_cases z:c=d
     ·cases(if_pos z).symm.trans h;cases z;exact .case (i e) (j f) (l g)
     ·cases(if_neg z).symm.trans h
 |way a t i=>
  intro m k h;unfold Pg.kind at h;cases e:t.kind (a::m)with
  |none=>rw[e]at h;cases h
  |some a=>rw[e]at h;cases h;exact .way (i e)
 |give t u i j=>
  intro m k h;unfold Pg.kind at h;cases e:t.kind m with
  |none=>rw[e]at h;cases h
  |some a=>cases f:u.kind m with
   |none=>rw[e,f]at h;cases a<;>cases h
   |some c=>
    rw[e,f]at h;cases a<;>first|cases h;done|skip
    rename_i a b
    by_cases z:a=c
    ·cases(if_pos z).symm.trans h;cases z;exact .give (i e) (j f)
    ·cases(if_neg z).symm.trans h
 |lets t u i j=>
  intro m k h;unfold Pg.kind at h;cases e:t.kind m with
  |none=>rw[e]at h;cases h
  |some a=>rw[e]at h;exact .lets (i e) (j h)
 |never b t i=>
  intro m k h;unfold Pg.kind at h;cases e:t.kind m with
  |none=>rw[e]at h;cases h
  |some a=>rw[e]at h;cases a<;>cases h;exact .never (i e)
end Ek
namespace Ek
open PySem
abbrev al9:Def:=⟨3,["whole","parts_of","made","order","done","here","many"],
 (.cons (.set 3 (.call "order_of_few" (.cons (.v 0) (.cons (.v 1) .nil))))
 (.cons (.iff (.isN (.v 3))
   (.cons .dead
  .nil)
   .nil)
 (.cons (.set 4 (.lst .nil))
 (.cons (.for (.tup [5,6]) (.rev (.v 3))
   (.cons (.ex (.app (.v 4) (.callv 2 (.cons (.v 5) (.cons (.ite (.cmp .Gt (.v 6) (.int 0)) (.call "taken" (.cons (.v 4) (.cons (.v 6) .nil))) (.lst .nil)) .nil)))))
  .nil))
 (.cons (.ret (.ix (.v 4) (.int 0)))
 .nil)))))⟩
abbrev an4:Def:=⟨2,["whole","parts_of","order","ahead","here","parts"],
 (.cons (.set 2 (.lst .nil))
 (.cons (.set 3 (.lst (.cons (.v 0) .nil)))
 (.cons (.while (.cmp .Gt (.len (.v 3)) (.int 0))
   (.cons (.set 4 (.pop (.v 3)))
  (.cons (.set 5 (.callv 1 (.cons (.v 4) .nil)))
  (.cons (.ex (.app (.v 2) (.tup (.cons (.v 4) (.cons (.len (.v 5)) .nil)))))
  (.cons (.ex (.ext (.v 3) (.v 5)))
  (.cons (.iff (.cmp .Gt (.len (.v 2)) (.gc "FEW"))
    (.cons (.ret .non)
   .nil)
    .nil)
  .nil))))))
 (.cons (.ret (.v 2))
 .nil))))⟩
abbrev au0:Def:=⟨2,["done","many","parts","number"],
 (.cons (.set 2 (.lst .nil))
 (.cons (.for (.n 3) (.rng (.v 1))
   (.cons (.ex (.app (.v 2) (.pop (.v 0))))
  .nil))
 (.cons (.ex (.lrev (.v 2)))
 (.cons (.ret (.v 2))
 .nil))))⟩
abbrev ar2:Def:=⟨1,["kind"],
 (.cons (.ret (.call "built_up" (.cons (.v 0) (.cons (.dict ["none","one"] (.cons (.lst .nil) (.cons (.lst (.cons (.tup .nil) .nil)) .nil))) (.cons (.gf "joined_things") .nil)))))
 .nil)⟩
abbrev ap6:Def:=⟨3,["kind","plain","joined","made","!plain","!joined","!"],
 (.cons (.dfn 3 2 ["here","parts","plain","joined"] [1,2]
   (.cons (.ret (.ite (.cmp .In (.ix (.v 0) (.int 0)) (.v 2)) (.ix (.v 2) (.ix (.v 0) (.int 0))) (.callv 3 (.cons (.ix (.v 0) (.int 0)) (.cons (.ix (.v 1) (.int 0)) (.cons (.ix (.v 1) (.int 1)) .nil))))))
  .nil))
 (.cons (.ret (.call "made_of_parts" (.cons (.v 0) (.cons (.lam 1 ["here"] [] (.sl (.v 0) (.int 1) .non)) (.cons (.v 3) .nil)))))
 .nil))⟩
abbrev al5:Def:=⟨3,["word","first","second"],
 (.cons (.iff (.cmp .Eq (.v 0) (.str "either"))
   (.cons (.ret (.bin .Add (.comp ["thing"] [] 1 (.n 0) (.seq (.v 1)) .non (.tup (.cons (.str "l") (.cons (.v 0) .nil)))) (.comp ["thing"] [] 1 (.n 0) (.seq (.v 2)) .non (.tup (.cons (.str "r") (.cons (.v 0) .nil))))))
  .nil)
   .nil)
 (.cons (.iff (.cmp .Eq (.v 0) (.str "both"))
   (.cons (.ret (.call "pairs" (.cons (.v 1) (.cons (.v 2) .nil))))
  .nil)
   .nil)
 (.cons (.ret (.comp ["row"] [] 1 (.n 0) (.seq (.call "rows_over" (.cons (.len (.v 1)) (.cons (.v 2) .nil)))) .non (.tup (.cons (.str "w") (.cons (.v 0) .nil)))))
 .nil)))⟩
abbrev as6:Def:=⟨2,["first","second","answer","thing"],
 (.cons (.set 2 (.lst .nil))
 (.cons (.for (.n 3) (.seq (.v 0))
   (.cons (.ex (.ext (.v 2) (.comp ["thing","other"] [3] 1 (.n 1) (.seq (.v 1)) .non (.tup (.cons (.str "p") (.cons (.v 0) (.cons (.v 1) .nil)))))))
  .nil))
 (.cons (.ret (.v 2))
 .nil)))⟩
abbrev ao6:Def:=⟨2,["length","choices","rows","done","longer","row"],
 (.cons (.set 2 (.lst (.cons (.tup .nil) .nil)))
 (.cons (.for (.n 3) (.rng (.v 0))
   (.cons (.set 4 (.lst .nil))
  (.cons (.for (.n 5) (.seq (.v 2))
    (.cons (.ex (.ext (.v 4) (.comp ["row","choice"] [5] 1 (.n 1) (.seq (.v 1)) .non (.bin .Add (.v 0) (.tup (.cons (.v 1) .nil))))))
   .nil))
  (.cons (.set 2 (.v 4))
  .nil))))
 (.cons (.ret (.v 2))
 .nil)))⟩
abbrev ak0:Def:=⟨1,["held","kind","thing"],
 (.cons (.set 1 (.ix (.v 0) (.int 0)))
 (.cons (.set 2 (.ix (.v 0) (.int 1)))
 (.cons (.iff (.cmp .Eq (.ix (.v 1) (.int 0)) (.str "one"))
   (.cons (.ret (.lst .nil))
  .nil)
   .nil)
 (.cons (.iff (.cmp .Eq (.ix (.v 1) (.int 0)) (.str "both"))
   (.cons (.ret (.lst (.cons (.tup (.cons (.ix (.v 1) (.int 1)) (.cons (.ix (.v 2) (.int 1)) .nil))) (.cons (.tup (.cons (.ix (.v 1) (.int 2)) (.cons (.ix (.v 2) (.int 2)) .nil))) .nil))))
  .nil)
   .nil)
 (.cons (.iff (.cmp .Eq (.ix (.v 1) (.int 0)) (.str "way"))
   (.cons (.ret (.comp ["kind","given"] [1] 1 (.n 1) (.seq (.ix (.v 2) (.int 1))) .non (.tup (.cons (.ix (.v 0) (.int 2)) (.cons (.v 1) .nil)))))
  .nil)
   .nil)
 (.cons (.ret (.lst (.cons (.tup (.cons (.ite (.cmp .Eq (.ix (.v 2) (.int 0)) (.str "l")) (.ix (.v 1) (.int 1)) (.ix (.v 1) (.int 2))) (.cons (.ix (.v 2) (.int 1)) .nil))) .nil)))
 .nil))))))⟩
abbrev ak4:Def:=⟨2,["kind","thing"],
 (.cons (.ret (.call "made_of_parts" (.cons (.tup (.cons (.v 0) (.cons (.v 1) .nil))) (.cons (.gf "things_within") (.cons (.gf "plain_by_parts") .nil)))))
 .nil)⟩
abbrev aj8:Def:=⟨2,["held","parts","kind"],
 (.cons (.set 2 (.ix (.v 0) (.int 0)))
 (.cons (.iff (.cmp .Eq (.ix (.v 2) (.int 0)) (.str "one"))
   (.cons (.ret (.tup (.cons (.str "star") .nil)))
  .nil)
   .nil)
 (.cons (.iff (.cmp .Eq (.ix (.v 2) (.int 0)) (.str "both"))
   (.cons (.ret (.tup (.cons (.str "pair") (.cons (.ix (.v 1) (.int 0)) (.cons (.ix (.v 1) (.int 1)) .nil)))))
  .nil)
   .nil)
 (.cons (.iff (.cmp .Eq (.ix (.v 2) (.int 0)) (.str "way"))
   (.cons (.ret (.tup (.cons (.str "way") (.cons (.ix (.v 2) (.int 1)) (.cons (.call "asking" (.cons (.sl (.v 2) (.int 1) (.int 2)) (.cons (.ix (.v 2) (.int 2)) (.cons (.v 1) .nil)))) .nil)))))
  .nil)
   .nil)
 (.cons (.ret (.ite (.cmp .Eq (.ix (.ix (.v 0) (.int 1)) (.int 0)) (.str "l")) (.tup (.cons (.str "left") (.cons (.ix (.v 2) (.int 2)) (.cons (.ix (.v 1) (.int 0)) .nil)))) (.tup (.cons (.str "right") (.cons (.ix (.v 2) (.int 1)) (.cons (.ix (.v 1) (.int 0)) .nil))))))
 .nil)))))⟩
abbrev ak5:Def:=⟨3,["names","kind","table"],
 (.cons (.ret (.call "asking" (.cons (.v 0) (.cons (.v 1) (.cons (.comp ["kind","thing"] [1] 1 (.n 1) (.seq (.v 2)) .non (.call "plain_thing" (.cons (.v 0) (.cons (.v 1) .nil)))) .nil)))))
 .nil)⟩
abbrev ak3:Def:=⟨1,["names","chain","level","kind"],
 (.cons (.set 1 .non)
 (.cons (.for (.tup [2,3]) (.enumr (.v 0))
   (.cons (.set 1 (.tup (.cons (.tup (.cons (.v 2) (.cons (.tup .nil) (.cons (.v 3) .nil)))) (.cons (.v 1) .nil))))
  .nil))
 (.cons (.ret (.v 1))
 .nil)))⟩
abbrev ak9:Def:=⟨3,["level","looks","depth","program","look"],
 (.cons (.set 3 (.tup (.cons (.str "name") (.cons (.bin .Sub (.bin .Sub (.v 2) (.int 1)) (.v 0)) .nil))))
 (.cons (.for (.n 4) (.seq (.v 1))
   (.cons (.set 3 (.bin .Add (.tup (.cons (.ix (.v 4) (.int 0)) (.cons (.v 3) .nil))) (.sl (.v 4) (.int 1) .non)))
  .nil))
 (.cons (.ret (.v 3))
 .nil)))⟩
abbrev aa2:Def:=⟨2,["asked","chain","kind","parts","part"],
 (.cons (.set 2 (.ix (.v 0) (.int 2)))
 (.cons (.set 3 (.lst .nil))
 (.cons (.iff (.cmp .Eq (.ix (.v 2) (.int 0)) (.str "both"))
   (.cons (.set 3 (.lst (.cons (.call "looked_at" (.cons (.v 0) (.cons (.tup (.cons (.str "first") .nil)) (.cons (.ix (.v 2) (.int 1)) .nil)))) (.cons (.call "looked_at" (.cons (.v 0) (.cons (.tup (.cons (.str "second") .nil)) (.cons (.ix (.v 2) (.int 2)) .nil)))) .nil))))
  .nil)
   .nil)
 (.cons (.iff (.and (.cmp .Eq (.ix (.v 2) (.int 0)) (.str "way")) (.not (.call "asks_nothing" (.cons (.v 2) .nil))))
   (.cons (.set 3 (.comp ["asked","kind","thing"] [0,2] 1 (.n 2) (.seq (.call "things" (.cons (.ix (.v 2) (.int 1)) .nil))) .non (.call "looked_at" (.cons (.v 0) (.cons (.tup (.cons (.str "give") (.cons (.call "plain_thing" (.cons (.ix (.v 1) (.int 1)) (.cons (.v 2) .nil))) .nil))) (.cons (.ix (.v 1) (.int 2)) .nil))))))
  .nil)
   .nil)
 (.cons (.for (.n 4) (.rev (.v 3))
   (.cons (.iff (.not (.call "asks_nothing" (.cons (.ix (.v 4) (.int 2)) .nil)))
    (.cons (.set 1 (.tup (.cons (.v 4) (.cons (.v 1) .nil))))
   .nil)
    .nil)
  .nil))
 (.cons (.ret (.v 1))
 .nil))))))⟩
abbrev ak1:Def:=⟨1,["kind"],
 (.cons (.ret (.not (.ix (.call "built_up" (.cons (.v 0) (.cons (.dict ["none","one"] (.cons (.tup (.cons (.bl AC) (.cons (.bl AF) .nil))) (.cons (.tup (.cons (.bl AF) (.cons (.bl AC) .nil))) .nil))) (.cons (.gf "joined_asking") .nil)))) (.int 0))))
 .nil)⟩
abbrev aj9:Def:=⟨3,["word","first","second"],
 (.cons (.iff (.cmp .Eq (.v 0) (.str "either"))
   (.cons (.ret (.tup (.cons (.bl AC) (.cons (.or (.ix (.v 1) (.int 1)) (.ix (.v 2) (.int 1))) .nil))))
  .nil)
   .nil)
 (.cons (.iff (.cmp .Eq (.v 0) (.str "both"))
   (.cons (.ret (.tup (.cons (.or (.ix (.v 1) (.int 0)) (.ix (.v 2) (.int 0))) (.cons (.and (.ix (.v 1) (.int 1)) (.ix (.v 2) (.int 1))) .nil))))
  .nil)
   .nil)
 (.cons (.ret (.tup (.cons (.and (.ix (.v 1) (.int 1)) (.ix (.v 2) (.int 0))) (.cons (.or (.ix (.v 2) (.int 1)) (.not (.ix (.v 1) (.int 1)))) .nil))))
 .nil)))⟩
abbrev al4:Def:=⟨3,["asked","look","kind"],
 (.cons (.ret (.tup (.cons (.ix (.v 0) (.int 0)) (.cons (.bin .Add (.ix (.v 0) (.int 1)) (.tup (.cons (.v 1) .nil))) (.cons (.v 2) .nil)))))
 .nil)⟩
abbrev ao3:Def:=⟨3,["names","kind","programs","left","done","ahead","task","asked","depth","here","branches"],
 (.cons (.set 3 (.lrl (.v 2)))
 (.cons (.set 4 (.lst .nil))
 (.cons (.set 5 (.lst (.cons (.tup (.cons (.str "ask") (.cons (.call "asked_names" (.cons (.v 0) .nil)) (.cons (.len (.v 0)) .nil)))) .nil)))
 (.cons (.while (.cmp .Gt (.len (.v 5)) (.int 0))
   (.cons (.set 6 (.pop (.v 5)))
  (.cons (.iff (.cmp .Eq (.ix (.v 6) (.int 0)) (.str "join"))
    (.cons (.ex (.app (.v 4) (.bin .Add (.ix (.v 6) (.int 1)) (.tuple (.call "taken" (.cons (.v 4) (.cons (.int 2) .nil)))))))
   (.cons .cont
   .nil))
    .nil)
  (.cons (.set 7 (.call "next_asked" (.cons (.ix (.v 6) (.int 1)) .nil)))
  (.cons (.set 8 (.ix (.v 6) (.int 2)))
  (.cons (.iff (.isN (.v 7))
    (.cons (.ex (.app (.v 4) (.pop (.v 3))))
   (.cons .cont
   .nil))
    .nil)
  (.cons (.set 9 (.call "expression" (.cons (.ix (.ix (.v 7) (.int 0)) (.int 0)) (.cons (.ix (.ix (.v 7) (.int 0)) (.int 1)) (.cons (.v 8) .nil)))))
  (.cons (.iff (.cmp .Eq (.ix (.ix (.ix (.v 7) (.int 0)) (.int 2)) (.int 0)) (.str "none"))
    (.cons (.ex (.app (.v 4) (.tup (.cons (.str "never") (.cons (.v 1) (.cons (.v 9) .nil))))))
   .nil)
    (.cons (.set 10 (.comp ["depth","asked","half"] [8,7] 1 (.n 2) (.seq (.sl (.ix (.ix (.v 7) (.int 0)) (.int 2)) (.int 1) .non)) .non (.tup (.cons (.str "ask") (.cons (.tup (.cons (.tup (.cons (.v 0) (.cons (.tup .nil) (.cons (.v 2) .nil)))) (.cons (.ix (.v 1) (.int 1)) .nil))) (.cons (.bin .Add (.v 0) (.int 1)) .nil))))))
   (.cons (.ex (.ext (.v 5) (.lst (.cons (.tup (.cons (.str "join") (.cons (.tup (.cons (.str "case") (.cons (.v 9) .nil))) .nil))) (.cons (.ix (.v 10) (.int 1)) (.cons (.ix (.v 10) (.int 0)) .nil))))))
   .nil)))
  .nil))))))))
 (.cons (.ret (.ix (.v 4) (.int 0)))
 .nil)))))⟩
abbrev ak6:Def:=⟨1,["chain"],
 (.cons (.while (.and (.notN (.v 0)) (.cmp .NotIn (.ix (.ix (.ix (.v 0) (.int 0)) (.int 2)) (.int 0)) (.tup (.cons (.str "none") (.cons (.str "either") .nil)))))
   (.cons (.set 0 (.call "opened" (.cons (.ix (.v 0) (.int 0)) (.cons (.ix (.v 0) (.int 1)) .nil))))
  .nil))
 (.cons (.ret (.v 0))
 .nil))⟩
abbrev L0:Def:=⟨1,["_law_script","_law_deck_here","_law_cell","_law_number","_law_k"],
 (.cons (.set 1 (.lst .nil))
 (.cons (.for (.n 2) (.seq (.sl (.v 0) .non (.int 63)))
   (.cons (.set 3 (.bin .Mult (.v 2) (.toInt (.cmp .GtE (.v 2) (.bin .Pow (.int 10) (.int 18))))))
  (.cons (.for (.n 4) (.rng (.int 60))
    (.cons (.iff (.cmp .Gt (.v 3) (.int 0))
     (.cons (.ex (.app (.v 1) (.bin .Mod (.v 3) (.int 2147483647))))
    (.cons (.set 3 (.bin .FloorDiv (.v 3) (.int 2147483647)))
    .nil))
     .nil)
   .nil))
  .nil)))
 (.cons (.for (.n 4) (.rng2 (.len (.v 1)) (.int 200))
   (.cons (.set 2 (.bin .Mult (.int 3) (.v 4)))
  (.cons (.iff (.cmp .Gt (.len (.v 0)) (.int 0))
    (.cons (.set 2 (.bin .Mod (.ix (.v 0) (.bin .Mod (.v 4) (.min (.int 63) (.len (.v 0))))) (.int 2147483629)))
   .nil)
    .nil)
  (.cons (.set 3 (.bin .Mod (.bin .Add (.bin .Add (.bin .Mult (.v 2) (.int 48271)) (.bin .Mult (.int 7919) (.v 4))) (.int 13)) (.int 2147483629)))
  (.cons (.set 3 (.bin .Mod (.bin .Add (.bin .Mult (.v 3) (.bin .Add (.bin .FloorDiv (.v 3) (.int 5)) (.v 4))) (.bin .Mult (.int 16807) (.v 4))) (.int 2147483587)))
  (.cons (.ex (.app (.v 1) (.bin .Mod (.bin .Add (.bin .Mult (.v 3) (.int 69621)) (.bin .FloorDiv (.v 3) (.int 127))) (.int 2147483647))))
  .nil))))))
 (.cons (.ret (.sl (.v 1) .non (.int 200)))
 .nil))))⟩
abbrev am8:Def:=⟨2,["_law_deck_here","_law_many_here"],
 (.cons (.iff (.cmp .Eq (.len (.v 0)) (.int 0))
   (.cons (.ret (.int 0))
  .nil)
   .nil)
 (.cons (.ret (.bin .Mod (.popAt (.v 0) (.int 0)) (.v 1)))
 .nil))⟩
abbrev ak2:Def:=⟨2,["_law_ones","_law_others","_law_found","_law_one"],
 (.cons (.set 2 (.lst .nil))
 (.cons (.for (.n 3) (.seq (.v 0))
   (.cons (.ex (.ext (.v 2) (.comp ["_law_one","_law_other"] [3] 1 (.n 1) (.seq (.v 1)) .non (.tup (.cons (.v 0) (.cons (.v 1) .nil))))))
  .nil))
 (.cons (.ret (.v 2))
 .nil)))⟩
abbrev R4:Def:=⟨1,["_law_kind_here","_law_ones","_law_others","_law_found","_law_one"],
 (.cons (.iff (.cmp .Eq (.ix (.v 0) (.int 0)) (.str "none"))
   (.cons (.ret (.lst .nil))
  .nil)
   .nil)
 (.cons (.iff (.cmp .Eq (.ix (.v 0) (.int 0)) (.str "one"))
   (.cons (.ret (.lst (.cons (.tup .nil) .nil)))
  .nil)
   .nil)
 (.cons (.set 1 (.call "_law_things" (.cons (.ix (.v 0) (.int 1)) .nil)))
 (.cons (.set 2 (.call "_law_things" (.cons (.ix (.v 0) (.int 2)) .nil)))
 (.cons (.iff (.cmp .Eq (.ix (.v 0) (.int 0)) (.str "either"))
   (.cons (.ret (.bin .Add (.comp ["_law_one"] [] 1 (.n 0) (.seq (.v 1)) .non (.tup (.cons (.str "l") (.cons (.v 0) .nil)))) (.comp ["_law_one"] [] 1 (.n 0) (.seq (.v 2)) .non (.tup (.cons (.str "r") (.cons (.v 0) .nil))))))
  .nil)
   .nil)
 (.cons (.iff (.cmp .Eq (.ix (.v 0) (.int 0)) (.str "both"))
   (.cons (.ret (.comp ["_law_pair"] [] 1 (.n 0) (.seq (.call "_law_crossed" (.cons (.v 1) (.cons (.v 2) .nil)))) .non (.bin .Add (.tup (.cons (.str "p") .nil)) (.v 0))))
  .nil)
   .nil)
 (.cons (.set 3 (.lst (.cons (.tup .nil) .nil)))
 (.cons (.for (.n 4) (.seq (.v 1))
   (.cons (.set 3 (.comp ["_law_row","_law_other"] [] 2 (.tup [0,1]) (.seq (.call "_law_crossed" (.cons (.v 3) (.cons (.v 2) .nil)))) .non (.bin .Add (.v 0) (.tup (.cons (.v 1) .nil)))))
  .nil))
 (.cons (.ret (.comp ["_law_row"] [] 1 (.n 0) (.seq (.v 3)) .non (.tup (.cons (.str "w") (.cons (.v 0) .nil)))))
 .nil)))))))))⟩
abbrev ae7:Def:=⟨1,["_law_kind_here","_law_one","_law_other","_law_found","_law_k"],
 (.cons (.iff (.or (.cmp .Eq (.ix (.v 0) (.int 0)) (.str "none")) (.cmp .Eq (.ix (.v 0) (.int 0)) (.str "one")))
   (.cons (.ret (.toInt (.cmp .Eq (.ix (.v 0) (.int 0)) (.str "one"))))
  .nil)
   .nil)
 (.cons (.set 1 (.call "_law_many" (.cons (.ix (.v 0) (.int 1)) .nil)))
 (.cons (.set 2 (.call "_law_many" (.cons (.ix (.v 0) (.int 2)) .nil)))
 (.cons (.iff (.cmp .Eq (.ix (.v 0) (.int 0)) (.str "either"))
   (.cons (.ret (.bin .Add (.v 1) (.v 2)))
  .nil)
   .nil)
 (.cons (.iff (.cmp .Eq (.ix (.v 0) (.int 0)) (.str "both"))
   (.cons (.ret (.bin .Mult (.v 1) (.v 2)))
  .nil)
   .nil)
 (.cons (.set 3 (.int 1))
 (.cons (.for (.n 4) (.rng (.v 1))
   (.cons (.set 3 (.bin .Mult (.v 3) (.v 2)))
  .nil))
 (.cons (.ret (.v 3))
 .nil))))))))⟩
abbrev am7:Def:=⟨1,["_law_names_here","_law_lines","_law_kind_here"],
 (.cons (.set 1 (.lst (.cons (.tup .nil) .nil)))
 (.cons (.for (.n 2) (.seq (.v 0))
   (.cons (.set 1 (.comp ["_law_row","_law_thing"] [] 2 (.tup [0,1]) (.seq (.call "_law_crossed" (.cons (.v 1) (.cons (.call "_law_things" (.cons (.v 2) .nil)) .nil)))) .non (.bin .Add (.v 0) (.tup (.cons (.v 1) .nil)))))
  .nil))
 (.cons (.ret (.v 1))
 .nil)))⟩
abbrev N4:Def:=⟨3,["_law_deck_here","_law_deep","_law_most","_law_way","_law_two","_law_one","_law_other","_law_kind_here"],
 (.cons (.set 3 (.call "_law_next" (.cons (.v 0) (.cons (.int 9) .nil))))
 (.cons (.set 4 (.tup (.cons (.str "either") (.cons (.tup (.cons (.str "one") .nil)) (.cons (.tup (.cons (.str "one") .nil)) .nil)))))
 (.cons (.iff (.or (.cmp .Eq (.v 1) (.int 0)) (.cmp .Eq (.v 3) (.int 0)))
   (.cons (.ret (.ix (.lst (.cons (.tup (.cons (.str "one") .nil)) (.cons (.v 4) (.cons (.v 4) .nil)))) (.call "_law_next" (.cons (.v 0) (.cons (.int 3) .nil)))))
  .nil)
   .nil)
 (.cons (.iff (.cmp .Eq (.v 3) (.int 1))
   (.cons (.ret (.ix (.lst (.cons (.tup (.cons (.str "none") .nil)) (.cons (.tup (.cons (.str "one") .nil)) .nil))) (.call "_law_next" (.cons (.v 0) (.cons (.int 2) .nil)))))
  .nil)
   .nil)
 (.cons (.set 5 (.call "_law_kind" (.cons (.v 0) (.cons (.bin .Sub (.v 1) (.int 1)) (.cons (.v 2) .nil)))))
 (.cons (.set 6 (.call "_law_kind" (.cons (.v 0) (.cons (.bin .Sub (.v 1) (.int 1)) (.cons (.v 2) .nil)))))
 (.cons (.set 7 (.tup (.cons (.ix (.lst (.cons (.str "either") (.cons (.str "both") (.cons (.str "way") .nil)))) (.bin .Mod (.v 3) (.int 3))) (.cons (.v 5) (.cons (.v 6) .nil)))))
 (.cons (.iff (.cmp .Gt (.call "_law_many" (.cons (.v 7) .nil)) (.v 2))
   (.cons (.ret (.v 4))
  .nil)
   .nil)
 (.cons (.ret (.v 7))
 .nil)))))))))⟩
abbrev am2:Def:=⟨2,["_law_deck_here","_law_most","_law_names_here","_law_lines","_law_k","_law_kind_here"],
 (.cons (.set 2 (.tup .nil))
 (.cons (.set 3 (.int 1))
 (.cons (.for (.n 4) (.rng (.call "_law_next" (.cons (.v 0) (.cons (.int 4) .nil))))
   (.cons (.set 5 (.call "_law_kind" (.cons (.v 0) (.cons (.int 2) (.cons (.v 1) .nil)))))
  (.cons (.iff (.cmp .LtE (.bin .Mult (.v 3) (.call "_law_many" (.cons (.v 5) .nil))) (.v 1))
    (.cons (.set 2 (.bin .Add (.v 2) (.tup (.cons (.v 5) .nil))))
   (.cons (.set 3 (.bin .Mult (.v 3) (.call "_law_many" (.cons (.v 5) .nil))))
   .nil))
    .nil)
  .nil)))
 (.cons (.ret (.v 2))
 .nil))))⟩
end Ek
namespace Ek
open PySem L2
def b39{Δ:List Kd}:∀(p:Pg){i:List Kd}{k:Kd},p.kind i=AA k->p.kind (i++Δ)=AA k:=by
 intro p
 induction p with
 |name n=>intro i k h;simp only[Pg.kind]at h ⊢;rw[Ag (AX.mp h).1];exact h
 |star=>intro i k h;exact h
 |pair t u d g=>
  intro i k h;simp only[Pg.kind]at h ⊢
  split at h
  ·rename_i a b f l;rw[d f,g l];exact h
  ·cases h
 |first t d=>
  intro i k h;simp only[Pg.kind]at h ⊢
  split at h
  ·rename_i a b f;rw[d f];exact h
  ·cases h
 |second t d=>
  intro i k h;simp only[Pg.kind]at h ⊢
  split at h
  ·rename_i a b f;rw[d f];exact h
  ·cases h
 |left b t d=>
  intro i k h;simp only[Pg.kind]at h ⊢
  split at h
  ·rename_i a f;rw[d f];exact h
  ·cases h
 |right b t d=>
  intro i k h;simp only[Pg.kind]at h ⊢
  split at h
  ·rename_i a f;rw[d f];exact h
  ·cases h
 |case t u v d g q=>
  intro i k h;simp only[Pg.kind]at h ⊢
  split at h
  ·rename_i a b f;rw[d f]
   split at h
   ·rename_i c e l C;have z:=g l;have y:=q C;rw[BB]at z y;simp only[z,y];exact h
   ·cases h
  ·cases h
 |way b t d=>
  intro i k h;simp only[Pg.kind]at h ⊢
  split at h
  ·rename_i a f;have j:=d f;rw[BB]at j;rw[j];exact h
  ·cases h
 |give t u d g=>
  intro i k h;simp only[Pg.kind]at h ⊢
  split at h
  ·rename_i a b c f l;rw[d f,g l];exact h
  ·cases h
 |lets t u d g=>
  intro i k h;simp only[Pg.kind]at h ⊢
  split at h
  ·rename_i a f;have j:=g h;rw[BB]at j;rw[d f];exact j
  ·cases h
 |never b t d=>
  intro i k h;simp only[Pg.kind]at h ⊢
  split at h
  ·rename_i f;rw[d f];exact h
  ·cases h
end Ek
namespace Ek
open PySem
abbrev U9:Def:=⟨2,["_law_kind_here","_law_thing"],
 (.cons (.iff (.cmp .Eq (.ix (.v 0) (.int 0)) (.str "either"))
   (.cons (.ret (.tup (.cons (.ix (.v 1) (.int 0)) (.cons (.call "_law_dressed" (.cons (.ix (.v 0) (.bin .Add (.int 1) (.toInt (.cmp .Eq (.ix (.v 1) (.int 0)) (.str "r"))))) (.cons (.ix (.v 1) (.int 1)) .nil))) .nil))))
  .nil)
   .nil)
 (.cons (.iff (.cmp .Eq (.ix (.v 0) (.int 0)) (.str "both"))
   (.cons (.ret (.tup (.cons (.str "p") (.cons (.call "_law_dressed" (.cons (.ix (.v 0) (.int 1)) (.cons (.ix (.v 1) (.int 1)) .nil))) (.cons (.call "_law_dressed" (.cons (.ix (.v 0) (.int 2)) (.cons (.ix (.v 1) (.int 2)) .nil))) .nil)))))
  .nil)
   .nil)
 (.cons (.iff (.cmp .Eq (.ix (.v 0) (.int 0)) (.str "way"))
   (.cons (.ret (.tup (.cons (.str "w") (.cons (.ix (.v 0) (.int 1)) (.cons (.tuple (.comp ["_law_kind_here","_law_one"] [0] 1 (.n 1) (.seq (.ix (.v 1) (.int 1))) .non (.call "_law_dressed" (.cons (.ix (.v 0) (.int 2)) (.cons (.v 1) .nil))))) .nil)))))
  .nil)
   .nil)
 (.cons (.ret (.v 1))
 .nil))))⟩
abbrev V0:Def:=⟨1,["_law_thing"],
 (.cons (.iff (.cmp .Eq (.v 0) (.tup .nil))
   (.cons (.ret (.v 0))
  .nil)
   .nil)
 (.cons (.iff (.cmp .Eq (.ix (.v 0) (.int 0)) (.str "w"))
   (.cons (.ret (.tup (.cons (.str "w") (.cons (.tuple (.comp ["_law_one"] [] 1 (.n 0) (.seq (.ix (.v 0) (.int 2))) .non (.call "_law_bare" (.cons (.v 0) .nil)))) .nil))))
  .nil)
   .nil)
 (.cons (.ret (.bin .Add (.sl (.v 0) .non (.int 1)) (.tuple (.comp ["_law_one"] [] 1 (.n 0) (.seq (.sl (.v 0) (.int 1) .non)) .non (.call "_law_bare" (.cons (.v 0) .nil))))))
 .nil)))⟩
abbrev F6:Def:=⟨2,["_law_program","_law_row","_law_word","_law_some","_law_held"],
 (.cons (.set 2 (.ix (.v 0) (.int 0)))
 (.cons (.iff (.cmp .Eq (.v 2) (.str "name"))
   (.cons (.ret (.ix (.v 1) (.ix (.v 0) (.int 1))))
  .nil)
   .nil)
 (.cons (.iff (.cmp .Eq (.v 2) (.str "star"))
   (.cons (.ret (.tup .nil))
  .nil)
   .nil)
 (.cons (.iff (.cmp .Eq (.v 2) (.str "pair"))
   (.cons (.ret (.tup (.cons (.str "p") (.cons (.call "_law_told" (.cons (.ix (.v 0) (.int 1)) (.cons (.v 1) .nil))) (.cons (.call "_law_told" (.cons (.ix (.v 0) (.int 2)) (.cons (.v 1) .nil))) .nil)))))
  .nil)
   .nil)
 (.cons (.iff (.or (.cmp .Eq (.v 2) (.str "left")) (.cmp .Eq (.v 2) (.str "right")))
   (.cons (.ret (.tup (.cons (.ix (.v 2) (.int 0)) (.cons (.call "_law_told" (.cons (.ix (.v 0) (.int 2)) (.cons (.v 1) .nil))) .nil))))
  .nil)
   .nil)
 (.cons (.iff (.cmp .Eq (.v 2) (.str "way"))
   (.cons (.set 3 (.comp ["_law_program","_law_thing"] [0] 1 (.n 1) (.seq (.call "_law_things" (.cons (.ix (.v 0) (.int 1)) .nil))) .non (.call "_law_dressed" (.cons (.ix (.v 0) (.int 1)) (.cons (.v 1) .nil)))))
  (.cons (.ret (.tup (.cons (.str "w") (.cons (.ix (.v 0) (.int 1)) (.cons (.tuple (.comp ["_law_program","_law_row","_law_thing"] [0,1] 1 (.n 2) (.seq (.v 3)) .non (.call "_law_told" (.cons (.ix (.v 0) (.int 2)) (.cons (.bin .Add (.tup (.cons (.v 2) .nil)) (.v 1)) .nil))))) .nil)))))
  .nil))
   .nil)
 (.cons (.set 4 (.call "_law_told" (.cons (.ix (.v 0) (.int 1)) (.cons (.v 1) .nil))))
 (.cons (.iff (.or (.cmp .Eq (.v 2) (.str "first")) (.cmp .Eq (.v 2) (.str "second")))
   (.cons (.ret (.ix (.v 4) (.bin .Add (.int 1) (.toInt (.cmp .Eq (.v 2) (.str "second"))))))
  .nil)
   .nil)
 (.cons (.iff (.cmp .Eq (.v 2) (.str "let"))
   (.cons (.ret (.call "_law_told" (.cons (.ix (.v 0) (.int 2)) (.cons (.bin .Add (.tup (.cons (.v 4) .nil)) (.v 1)) .nil))))
  .nil)
   .nil)
 (.cons (.iff (.cmp .Eq (.v 2) (.str "case"))
   (.cons (.ret (.call "_law_told" (.cons (.ix (.v 0) (.bin .Add (.int 2) (.toInt (.cmp .Eq (.ix (.v 4) (.int 0)) (.str "r"))))) (.cons (.bin .Add (.tup (.cons (.ix (.v 4) (.int 1)) .nil)) (.v 1)) .nil))))
  .nil)
   .nil)
 (.cons (.ret (.ix (.ix (.v 4) (.int 2)) (.index (.call "_law_things" (.cons (.ix (.v 4) (.int 1)) .nil)) (.call "_law_bare" (.cons (.call "_law_told" (.cons (.ix (.v 0) (.int 2)) (.cons (.v 1) .nil))) .nil)))))
 .nil)))))))))))⟩
abbrev al7:Def:=⟨2,["_law_program","_law_names_here","_law_found","_law_row","_law_dressed_here"],
 (.cons (.set 2 (.lst .nil))
 (.cons (.for (.n 3) (.seq (.call "_law_rows" (.cons (.v 1) .nil)))
   (.cons (.set 4 (.tuple (.comp ["_law_kind_here","_law_thing"] [] 2 (.tup [0,1]) (.zip (.v 1) (.v 3)) .non (.call "_law_dressed" (.cons (.v 0) (.cons (.v 1) .nil))))))
  (.cons (.ex (.app (.v 2) (.call "_law_bare" (.cons (.call "_law_told" (.cons (.v 0) (.cons (.v 4) .nil))) .nil))))
  .nil)))
 (.cons (.ret (.v 2))
 .nil)))⟩
abbrev al2:Def:=⟨1,["self"],
 (.cons (.fldS (.v 0) "numbers" .dnt)
 (.cons (.fldS (.v 0) "stored" (.lst .nil))
 (.cons (.fldS (.v 0) "parts" (.lst .nil))
 (.cons (.fldS (.v 0) "waiting" (.lst .nil))
 .nil))))⟩
abbrev aa1:Def:=⟨3,["self","kind","deep"],
 (.cons (.iff (.cmp .Eq (.len (.v 1)) (.int 1))
   (.cons (.ret (.meth (.v 0) "numbered" (.cons (.v 1) (.cons (.tup .nil) .nil))))
  .nil)
   .nil)
 (.cons (.iff (.cmp .Eq (.v 2) (.int 0))
   (.cons (.ret (.meth (.v 0) "laid" (.cons (.v 1) .nil)))
  .nil)
   .nil)
 (.cons (.ret (.meth (.v 0) "built" (.cons (.ix (.v 1) (.int 0)) (.cons (.meth (.v 0) "laid_kind" (.cons (.ix (.v 1) (.int 1)) (.cons (.bin .Sub (.v 2) (.int 1)) .nil))) (.cons (.meth (.v 0) "laid_kind" (.cons (.ix (.v 1) (.int 2)) (.cons (.bin .Sub (.v 2) (.int 1)) .nil))) .nil)))))
 .nil)))⟩
abbrev ao0:Def:=⟨4,["self","word","first","second"],
 (.cons (.ret (.meth (.v 0) "numbered" (.cons (.tup (.cons (.v 1) .nil)) (.cons (.tup (.cons (.v 2) (.cons (.v 3) .nil))) .nil))))
 .nil)⟩
abbrev ak7:Def:=⟨3,["self","front","numbers","key","number"],
 (.cons (.set 3 (.tup (.cons (.v 1) (.cons (.v 2) .nil))))
 (.cons (.set 4 (.dgt (.fld (.v 0) "numbers") (.v 3)))
 (.cons (.iff (.isN (.v 4))
   (.cons (.set 4 (.len (.fld (.v 0) "stored")))
  (.cons (.dput (.fld (.v 0) "numbers") (.v 3) (.v 4))
  (.cons (.ex (.app (.fld (.v 0) "stored") (.bin .Add (.v 1) (.tuple (.comp ["self","part"] [0] 1 (.n 1) (.seq (.v 2)) .non (.ix (.fld (.v 0) "stored") (.v 1)))))))
  (.cons (.ex (.app (.fld (.v 0) "parts") (.v 2)))
  .nil))))
   .nil)
 (.cons (.ret (.v 4))
 .nil))))⟩
abbrev am9:Def:=⟨2,["self","kind"],
 (.cons (.ex (.app (.fld (.v 0) "waiting") (.tup (.cons (.v 1) (.cons .non .nil)))))
 (.cons (.ret (.neg (.len (.fld (.v 0) "waiting"))))
 .nil))⟩
abbrev al0:Def:=⟨2,["self","number","waited"],
 (.cons (.iff (.cmp .GtE (.v 1) (.int 0))
   (.cons (.ret (.v 1))
  .nil)
   .nil)
 (.cons (.set 2 (.ix (.fld (.v 0) "waiting") (.bin .Sub (.neg (.int 1)) (.v 1))))
 (.cons (.iff (.isN (.ix (.v 2) (.int 1)))
   (.cons (.set 2 (.tup (.cons (.ix (.v 2) (.int 0)) (.cons (.methd (.v 0) "laid_kind" (.cons (.ix (.v 2) (.int 0)) .nil)) .nil))))
  (.cons (.put (.fld (.v 0) "waiting") (.bin .Sub (.neg (.int 1)) (.v 1)) (.v 2))
  .nil))
   .nil)
 (.cons (.ret (.ix (.v 2) (.int 1)))
 .nil))))⟩
abbrev ak8:Def:=⟨2,["self","number"],
 (.cons (.ret (.ix (.fld (.v 0) "stored") (.v 1)))
 .nil)⟩
abbrev al6:Def:=⟨2,["self","number"],
 (.cons (.ret (.ix (.ix (.fld (.v 0) "stored") (.v 1)) (.int 0)))
 .nil)⟩
abbrev am6:Def:=⟨2,["self","number"],
 (.cons (.ret (.ix (.fld (.v 0) "parts") (.v 1)))
 .nil)⟩
abbrev am4:Def:=⟨4,["self","program","inside","number"],
 (.cons (.fldS (.v 0) "program" (.v 1))
 (.cons (.fldS (.v 0) "inside" (.v 2))
 (.cons (.fldS (.v 0) "number" (.v 3))
 (.cons (.fldS (.v 0) "holders" (.int 0))
 (.cons (.fldS (.v 0) "ways" (.int 0))
 (.cons (.fldS (.v 0) "used" .non)
 (.cons (.fldS (.v 0) "kind" .non)
 .nil)))))))⟩
abbrev as7:Def:=⟨1,["program"],
 (.cons (.ret (.list (.sl (.v 0) (.gsel "INNER_FROM" (.ix (.v 0) (.int 0))) .non)))
 .nil)⟩
abbrev ao2:Def:=⟨2,["program","number"],
 (.cons (.ret (.ite (.cmp .In (.v 1) (.gget "UNDER_ONE_MORE" (.ix (.v 0) (.int 0)) (.tup .nil))) (.int 1) (.int 0)))
 .nil)⟩
abbrev at3:Def:=⟨2,["program","nodes","made","!nodes","!"],
 (.cons (.dfn 2 2 ["here","inside","nodes","node","part"] [1]
   (.cons (.set 3 (.make "Node" (.cons (.v 0) (.cons (.v 1) (.cons (.len (.v 2)) .nil)))))
  (.cons (.ex (.app (.v 2) (.v 3)))
  (.cons (.for (.n 4) (.seq (.v 1))
    (.cons (.fldS (.v 4) "holders" (.bin .Add (.fld (.v 4) "holders") (.int 1)))
   (.cons (.fldS (.v 3) "ways" (.max (.fld (.v 3) "ways") (.fld (.v 4) "ways")))
   .nil)))
  (.cons (.iff (.cmp .Eq (.ix (.v 0) (.int 0)) (.str "way"))
    (.cons (.fldS (.v 3) "ways" (.bin .Add (.fld (.v 3) "ways") (.int 1)))
   .nil)
    .nil)
  (.cons (.ret (.v 3))
  .nil))))))
 (.cons (.ret (.call "made_of_parts" (.cons (.v 0) (.cons (.gf "inner") (.cons (.v 2) .nil)))))
 .nil))⟩
abbrev P8:Def:=⟨4,["node","known","named","made","begun","answers","before","here","number","key","answer"],
 (.cons (.set 4 (.lst (.cons (.v 0) .nil)))
 (.cons (.set 5 (.lst (.cons (.lst .nil) .nil)))
 (.cons (.set 6 .dnt)
 (.cons (.while (.bl AC)
   (.cons (.set 7 (.ix (.v 4) (.neg (.int 1))))
  (.cons (.set 8 (.len (.ix (.v 5) (.neg (.int 1)))))
  (.cons (.set 9 (.ite (.cmp .Gt (.fld (.v 7) "holders") (.int 1)) (.call "known_for" (.cons (.v 7) (.cons (.v 1) .nil))) .non))
  (.cons (.iff (.and (.din AC (.v 9) (.v 6)) (.cmp .Lt (.v 8) (.len (.fld (.v 7) "inside"))))
    (.cons (.iff (.cmp .Eq (.call "names_more" (.cons (.fld (.v 7) "program") (.cons (.v 8) .nil))) (.int 1))
     (.cons (.ex (.app (.v 1) (.callv 2 (.cons (.fld (.v 7) "program") (.cons (.ix (.v 5) (.neg (.int 1))) (.cons (.v 8) .nil))))))
    .nil)
     .nil)
   (.cons (.ex (.app (.v 4) (.ix (.fld (.v 7) "inside") (.v 8))))
   (.cons (.ex (.app (.v 5) (.lst .nil)))
   (.cons .cont
   .nil))))
    .nil)
  (.cons (.set 10 (.ite (.din AF (.v 9) (.v 6)) (.ix (.v 6) (.v 9)) (.callv 3 (.cons (.v 7) (.cons (.ix (.v 5) (.neg (.int 1))) (.cons (.v 1) .nil))))))
  (.cons (.iff (.notN (.v 9))
    (.cons (.dput (.v 6) (.v 9) (.v 10))
   .nil)
    .nil)
  (.cons (.ex (.pop (.v 4)))
  (.cons (.ex (.pop (.v 5)))
  (.cons (.iff (.cmp .Eq (.len (.v 4)) (.int 0))
    (.cons (.ret (.v 10))
   .nil)
    .nil)
  (.cons (.iff (.cmp .Eq (.call "names_more" (.cons (.fld (.ix (.v 4) (.neg (.int 1))) "program") (.cons (.len (.ix (.v 5) (.neg (.int 1)))) .nil))) (.int 1))
    (.cons (.ex (.pop (.v 1)))
   .nil)
    .nil)
  (.cons (.ex (.app (.ix (.v 5) (.neg (.int 1))) (.v 10)))
  .nil))))))))))))
 .nil))))⟩
abbrev aq2:Def:=⟨2,["program","names","shelf"],
 (.cons (.set 2 (.make "Shelf" .nil))
 (.cons (.ret (.meth (.v 2) "tuple_at" (.cons (.call "shelved_kind" (.cons (.v 0) (.cons (.call "shelved_names" (.cons (.v 1) (.cons (.v 2) .nil))) (.cons (.v 2) .nil)))) .nil)))
 .nil))⟩
abbrev al3:Def:=⟨2,["names","shelf"],
 (.cons (.ret (.comp ["shelf","kind"] [1] 1 (.n 1) (.revt (.v 0)) .non (.meth (.v 0) "put_by" (.cons (.v 1) .nil))))
 .nil)⟩
abbrev an3:Def:=⟨3,["program","known","shelf"],
 (.cons (.ret (.call "kind_of_node" (.cons (.call "noded" (.cons (.v 0) (.cons (.lst .nil) .nil))) (.cons (.v 1) (.cons (.v 2) .nil)))))
 .nil)⟩
abbrev an5:Def:=⟨3,["node","known","shelf","named","made","!shelf","!"],
 (.cons (.dfn 3 3 ["here","kinds","number","shelf"] [2]
   (.cons (.ret (.call "new_name" (.cons (.v 0) (.cons (.v 1) (.cons (.v 2) (.cons (.v 3) .nil))))))
  .nil))
 (.cons (.dfn 4 3 ["here","kinds","known_here","shelf","kind"] [2]
   (.cons (.set 4 (.call "kind_by_parts" (.cons (.fld (.v 0) "program") (.cons (.v 1) (.cons (.v 2) (.cons (.v 3) .nil))))))
  (.cons (.fldS (.v 0) "kind" (.ite (.or (.isN (.fld (.v 0) "kind")) (.cmp .Eq (.fld (.v 0) "kind") (.v 4))) (.v 4) (.neg (.int 1))))
  (.cons (.ret (.v 4))
  .nil))))
 (.cons (.ret (.call "folded" (.cons (.v 0) (.cons (.v 1) (.cons (.v 3) (.cons (.v 4) .nil))))))
 .nil)))⟩
abbrev al8:Def:=⟨4,["program","kinds","known","shelf"],
 (.cons (.ret (.callx (.gsel "BY_WORD" (.ix (.v 0) (.int 0))) (.cons (.v 0) (.cons (.v 1) (.cons (.v 2) (.cons (.v 3) .nil))))))
 .nil)⟩
abbrev ap0:Def:=⟨4,["program","kinds","number","shelf"],
 (.cons (.iff (.cmp .Eq (.ix (.v 0) (.int 0)) (.str "way"))
   (.cons (.ret (.methd (.v 3) "laid_kind" (.cons (.ix (.v 0) (.int 1)) .nil)))
  .nil)
   .nil)
 (.cons (.iff (.cmp .Eq (.ix (.v 0) (.int 0)) (.str "let"))
   (.cons (.ret (.ix (.v 1) (.int 0)))
  .nil)
   .nil)
 (.cons (.ret (.ix (.call "halves_of" (.cons (.str "either") (.cons (.ix (.v 1) (.int 0)) (.cons (.v 3) .nil)))) (.bin .Sub (.v 2) (.int 1))))
 .nil)))⟩
abbrev ao5:Def:=⟨3,["word","kind","shelf"],
 (.cons (.iff (.cmp .NotEq (.meth (.v 2) "word_at" (.cons (.v 1) .nil)) (.v 0))
   (.cons .dead
  .nil)
   .nil)
 (.cons (.ret (.meth (.v 2) "within" (.cons (.v 1) .nil)))
 .nil))⟩
abbrev an6:Def:=⟨4,["program","kinds","known","shelf","number"],
 (.cons (.set 4 (.ix (.v 0) (.int 1)))
 (.cons (.iff (.or (.cmp .Lt (.v 4) (.int 0)) (.cmp .GtE (.v 4) (.len (.v 2))))
   (.cons .dead
  .nil)
   .nil)
 (.cons (.ret (.meth (.v 3) "taken_up" (.cons (.ix (.v 2) (.bin .Sub (.bin .Sub (.len (.v 2)) (.int 1)) (.v 4))) .nil)))
 .nil)))⟩
abbrev am5:Def:=⟨4,["program","kinds","known","shelf"],
 (.cons (.ret (.meth (.v 3) "numbered" (.cons (.tup (.cons (.str "one") .nil)) (.cons (.tup .nil) .nil))))
 .nil)⟩
abbrev an1:Def:=⟨4,["program","kinds","known","shelf"],
 (.cons (.ret (.meth (.v 3) "built" (.cons (.str "both") (.cons (.ix (.v 1) (.int 0)) (.cons (.ix (.v 1) (.int 1)) .nil)))))
 .nil)⟩
abbrev am3:Def:=⟨4,["program","kinds","known","shelf"],
 (.cons (.ret (.ix (.call "halves_of" (.cons (.str "both") (.cons (.ix (.v 1) (.int 0)) (.cons (.v 3) .nil)))) (.int 0)))
 .nil)⟩
abbrev al1:Def:=⟨4,["program","kinds","known","shelf"],
 (.cons (.ret (.ix (.call "halves_of" (.cons (.str "both") (.cons (.ix (.v 1) (.int 0)) (.cons (.v 3) .nil)))) (.int 1)))
 .nil)⟩
abbrev an7:Def:=⟨4,["program","kinds","known","shelf"],
 (.cons (.ret (.meth (.v 3) "built" (.cons (.str "either") (.cons (.ix (.v 1) (.int 0)) (.cons (.methd (.v 3) "laid_kind" (.cons (.ix (.v 0) (.int 1)) .nil)) .nil)))))
 .nil)⟩
abbrev am1:Def:=⟨4,["program","kinds","known","shelf"],
 (.cons (.ret (.meth (.v 3) "built" (.cons (.str "either") (.cons (.methd (.v 3) "laid_kind" (.cons (.ix (.v 0) (.int 1)) .nil)) (.cons (.ix (.v 1) (.int 0)) .nil)))))
 .nil)⟩
abbrev an2:Def:=⟨4,["program","kinds","known","shelf"],
 (.cons (.iff (.cmp .NotEq (.ix (.v 1) (.int 1)) (.ix (.v 1) (.int 2)))
   (.cons .dead
  .nil)
   .nil)
 (.cons (.ret (.ix (.v 1) (.int 1)))
 .nil))⟩
abbrev ao1:Def:=⟨4,["program","kinds","known","shelf"],
 (.cons (.ret (.meth (.v 3) "built" (.cons (.str "way") (.cons (.methd (.v 3) "laid_kind" (.cons (.ix (.v 0) (.int 1)) .nil)) (.cons (.ix (.v 1) (.int 0)) .nil)))))
 .nil)⟩
abbrev an0:Def:=⟨4,["program","kinds","known","shelf","ends"],
 (.cons (.set 4 (.call "halves_of" (.cons (.str "way") (.cons (.ix (.v 1) (.int 0)) (.cons (.v 3) .nil)))))
 (.cons (.iff (.cmp .NotEq (.ix (.v 4) (.int 0)) (.ix (.v 1) (.int 1)))
   (.cons .dead
  .nil)
   .nil)
 (.cons (.ret (.ix (.v 4) (.int 1)))
 .nil)))⟩
abbrev an8:Def:=⟨4,["program","kinds","known","shelf"],
 (.cons (.ret (.ix (.v 1) (.int 1)))
 .nil)⟩
abbrev am0:Def:=⟨4,["program","kinds","known","shelf"],
 (.cons (.iff (.cmp .NotEq (.meth (.v 3) "word_at" (.cons (.ix (.v 1) (.int 0)) .nil)) (.str "none"))
   (.cons .dead
  .nil)
   .nil)
 (.cons (.ret (.methd (.v 3) "laid_kind" (.cons (.ix (.v 0) (.int 1)) .nil)))
 .nil))⟩
abbrev ae6:Def:=⟨2,["_law_some","_law_many_here","_law_found","_law_k"],
 (.cons (.set 2 (.lst (.cons (.lst .nil) .nil)))
 (.cons (.for (.n 3) (.rng (.v 1))
   (.cons (.set 2 (.comp ["_law_tabled","_law_thing"] [] 2 (.tup [0,1]) (.seq (.call "_law_crossed" (.cons (.v 2) (.cons (.v 0) .nil)))) .non (.bin .Add (.v 0) (.lst (.cons (.v 1) .nil)))))
  .nil))
 (.cons (.ret (.v 2))
 .nil)))⟩
abbrev V5:Def:=⟨1,["_law_script","_law_deck_here","_law_kind_here","_law_names_here","_law_lines","_law_programs","_law_tabled","_law_program"],
 (.cons (.set 1 (.call "_law_deck" (.cons (.v 0) .nil)))
 (.cons (.set 2 (.call "_law_kind" (.cons (.v 1) (.cons (.int 2) (.cons (.int 3) .nil)))))
 (.cons (.iff (.cmp .Eq (.call "_law_many" (.cons (.v 2) .nil)) (.int 0))
   (.cons (.set 2 (.tup (.cons (.str "one") .nil)))
  .nil)
   .nil)
 (.cons (.set 3 (.call "_law_names" (.cons (.v 1) (.cons (.int 3) .nil))))
 (.cons (.set 4 (.call "_law_rows" (.cons (.v 3) .nil)))
 (.cons (.set 5 (.lst .nil))
 (.cons (.for (.n 6) (.seq (.call "_law_tables" (.cons (.call "_law_things" (.cons (.v 2) .nil)) (.cons (.len (.v 4)) .nil))))
   (.cons (.set 7 (.call "plain_table" (.cons (.v 3) (.cons (.v 2) (.cons (.list (.v 6)) .nil)))))
  (.cons (.iff (.or (.cmp .NotEq (.call "kind_of" (.cons (.v 7) (.cons (.v 3) .nil))) (.v 2)) (.or (.cmpl AC (.call "_law_table" (.cons (.v 7) (.cons (.v 3) .nil))) (.v 6)) (.inl (.v 7) (.v 5))))
    (.cons (.ret (.bl AF))
   .nil)
    .nil)
  (.cons (.ex (.app (.v 5) (.v 7)))
  .nil))))
 (.cons (.ret (.bl AC))
 .nil))))))))⟩
abbrev ab7:List (Str×Def):=[(("Shelf.__init__":Str),al2),(("Shelf.laid_kind":Str),aa1),(("Shelf.built":Str),ao0),(("Shelf.numbered":Str),ak7),(("Shelf.put_by":Str),am9),(("Shelf.taken_up":Str),al0),(("Shelf.tuple_at":Str),ak8),(("Shelf.word_at":Str),al6),(("Shelf.within":Str),am6),(("Node.__init__":Str),am4),(("made_of_parts":Str),al9),(("order_of_few":Str),an4),(("taken":Str),au0),(("things":Str),ar2),(("built_up":Str),ap6),(("things_within":Str),ak0),(("joined_things":Str),al5),(("pairs":Str),as6),(("rows_over":Str),ao6),(("plain_thing":Str),ak4),(("plain_by_parts":Str),aj8),(("plain_table":Str),ak5),(("asked_names":Str),ak3),(("expression":Str),ak9),(("opened":Str),aa2),(("asks_nothing":Str),ak1),(("joined_asking":Str),aj9),(("looked_at":Str),al4),(("asking":Str),ao3),(("next_asked":Str),ak6),(("inner":Str),as7),(("names_more":Str),ao2),(("noded":Str),at3),(("folded":Str),P8),(("kind_of":Str),aq2),(("shelved_names":Str),al3),(("shelved_kind":Str),an3),(("kind_of_node":Str),an5),(("kind_by_parts":Str),al8),(("new_name":Str),ap0),(("halves_of":Str),ao5),(("kind_of_name":Str),an6),(("kind_of_star":Str),am5),(("kind_of_pair":Str),an1),(("kind_of_first":Str),am3),(("kind_of_second":Str),al1),(("kind_of_left":Str),an7),(("kind_of_right":Str),am1),(("kind_of_case":Str),an2),(("kind_of_way":Str),ao1),(("kind_of_give":Str),an0),(("kind_of_let":Str),an8),(("kind_of_never":Str),am0),(("_law_deck":Str),L0),(("_law_next":Str),am8),(("_law_crossed":Str),ak2),(("_law_things":Str),R4),(("_law_many":Str),ae7),(("_law_dressed":Str),U9),(("_law_bare":Str),V0),(("_law_told":Str),F6),(("_law_rows":Str),am7),(("_law_table":Str),al7),(("_law_kind":Str),N4),(("_law_names":Str),am2),(("_law_tables":Str),ae6),(("law":Str),V5)]
abbrev ab4:i9:=λf=>ab7.lookup f
abbrev A9:Gs:=⟨λg=>if g="INNER_FROM" then [("name",.int 2),("star",.int 1),("pair",.int 1),("first",.int 1),("second",.int 1),("left",.int 2),("right",.int 2),("case",.int 1),("way",.int 2),("give",.int 1),("let",.int 1),("never",.int 2)]else if g="UNDER_ONE_MORE" then [("case",.ktup [1,2]),("way",.ktup [0]),("let",.ktup [1])]else if g="BY_WORD" then [("name",.fn "kind_of_name"),("star",.fn "kind_of_star"),("pair",.fn "kind_of_pair"),("first",.fn "kind_of_first"),("second",.fn "kind_of_second"),("left",.fn "kind_of_left"),("right",.fn "kind_of_right"),("case",.fn "kind_of_case"),("way",.fn "kind_of_way"),("give",.fn "kind_of_give"),("let",.fn "kind_of_let"),("never",.fn "kind_of_never")]else [],λc=>if c="!kt" then ["n"]else if c="!Shelf.laid_kind" then ["d","d","d","d"]else if c="Shelf" then ["numbers","stored","parts","waiting"]else if c="Node" then ["program","inside","number","holders","ways","used","kind"]else [],λg=>if g="FEW" then AA (.int 2000)else AD⟩
end Ek
namespace Ek
open PySem L2
@[reducible]noncomputable def bn1(K:AQ)(cd:AG)(ts:List AH):Prop:=∃c P,cd=.ref c/\CY K c P=AC/\P∈ts
abbrev FnA(K:AQ)(ts:List AH)(m:Bool)(f:Str)(st:Bf):Prop:=∃(fa:AH)(od an:Option AH)(sl:Array (Option AG))(oc kV dc pm cd ct:AG),
 BJ K AO f=AA (AA (.ref fa))/\K.lookup fa=AA ⟨oc,od,.func (Dh f f (D3 st) (B7 st) (o9 st) .none kV dc pm an cd ct),sl⟩/\Di K cd f=AC/\CI K (.ref fa)=AC/\(m=AC->bn1 K cd ts)
section
variable {K:AQ} {ts:List AH} {f c m:Str} {st:Bf} {fa Ca:AH} {od an:Option AH} {sl:Array (Option AG)} {oc kV dc pm cd ct:AG} {hc hp:AH}
def fnA(d:BJ K AO f=AA (AA (.ref fa)))(a:K.lookup fa=AA ⟨oc,od,.func (Dh f f (D3 st) (B7 st) (o9 st) .none kV dc pm an cd ct),sl⟩)(c:Di K cd f=AC)(b:CI K (.ref fa)=AC):FnA K ts AF f st:=
 ⟨_,_,_,_,_,_,_,_,_,_,d,a,c,b,nofun⟩
def fnM(h:BJ K AO f=AA (AA (.ref fa)))(a:K.lookup fa=AA ⟨oc,od,.func (Dh f f (D3 st) (B7 st) (o9 st) .none kV dc pm an cd ct),sl⟩)(g:Di K cd f=AC)(b:CI K (.ref fa)=AC)
  (e:av6 K cd=AA (hc,hp)) (d:CY K hc hp=AC) (c:ts.contains hp=AC):FnA K ts AC f st:=
 ⟨_,_,_,_,_,_,_,_,_,_,h,a,g,b,λ_=>cq2 e d c⟩
structure ClA(K:AQ)(c:Str)(Ca:AH):Prop where
 a:BJ K AO c=AA (AA (.ref Ca))
 cl:Cls K Ca
 ms:IK K Ca=AC
 kp:CI K (.ref Ca)=AC
def clA(h:BJ K AO c=AA (AA (.ref Ca)))(g:GL K Ca Str.empty=AC)(f:HG K Ca=AC)(e:Ij K Ca=AC)(d:Bg K (.ref Ca) "__setattr__"=AA (AA (.builtin "object.__setattr__")))(b:IK K Ca=AC)(a:CI K (.ref Ca)=AC):ClA K c Ca:=⟨h,⟨g,f,e,d⟩,b,a⟩
abbrev MtA(K:AQ)(ts:List AH)(b:Bool)(c:Str)(Ca:AH)(m:Str)(st:Bf):Prop:=∃(fa:AH)(od an:Option AH)(sl:Array (Option AG))(oc kV dc pm cd ct:AG),
 BJ K AO (f9 c m)=AA AD/\Meth K Ca m fa/\K.lookup fa=AA ⟨oc,od,.func (Dh m (f9 c m) (D3 st) (B7 st) (o9 st) .none kV dc pm an cd ct),sl⟩/\Di K cd (f9 c m)=AC/\(b=AC->bn1 K cd ts)
def mtA(g:BJ K AO (f9 c m)=AA AD)(f:Bg K (.ref Ca) m=AA (AA (.ref fa)))(e:JL K (.ref fa)=AC)(d:CI K (.ref fa)=AC)
  (a:K.lookup fa=AA ⟨oc,od,.func (Dh m (f9 c m) (D3 st) (B7 st) (o9 st) .none kV dc pm an cd ct),sl⟩) (b:Di K cd (f9 c m)=AC):MtA K ts AF c Ca m st:=⟨_,_,_,_,_,_,_,_,_,_,g,⟨f,e,d⟩,a,b,nofun⟩
abbrev MtD(K:AQ)(c:Str)(Ca:AH)(m:Str)(st:Bf)(i:Int):Prop:=∃(fa T:AH)(od an td:Option AH)(sl tsl:Array (Option AG))(oc kV dc pm cd ct tc:AG)(tk:Tok)(n:Nat),
 BJ K AO (f9 c m)=AA AD/\Meth K Ca m fa/\K.lookup fa=AA ⟨oc,od,.func (Dh m (f9 c m) (D3 st) (B7 st) (o9 st) (.ref T) kV dc pm an cd ct),sl⟩/\Di K cd (f9 c m)=AC/\K.lookup T=AA ⟨tc,td,.seq #[.int i tk] n,tsl⟩
def mtD{T}{td}{tsl}{tc}{tk}{n}{i}(h:BJ K AO (f9 c m)=AA AD)(g:Bg K (.ref Ca) m=AA (AA (.ref fa)))(f:JL K (.ref fa)=AC)(e:CI K (.ref fa)=AC)
  (b:K.lookup fa=AA ⟨oc,od,.func (Dh m (f9 c m) (D3 st) (B7 st) (o9 st) (.ref T) kV dc pm an cd ct),sl⟩) (d:Di K cd (f9 c m)=AC) (a:K.lookup T=AA ⟨tc,td,.seq #[.int i tk] n,tsl⟩):MtD K c Ca m st i:=
 ⟨_,_,_,_,_,_,_,_,_,_,_,_,_,_,_,_,h,⟨g,f,e⟩,b,d,a⟩
end
def bdS{d:Type}{P:List d->Prop}{n:Nat}(h:∀a us,us.length=n->P (a::us)):∀us,us.length=n+1->P us:=λus hl=>by
 cases us with
 |nil=>cases hl
 |cons a us=>exact h a us (FV hl)
def bdZ{b:Type}{P:List b->Prop}(h:P []):∀a,a.length=0->P a:=λus hl=>by
 grind
@[reducible]noncomputable def StF(st:Bf)(d:Def)(f:Str):Prop:=Stat st d (d.N.take d.np) f f
@[reducible]noncomputable def StM(st:Bf)(d:Def)(c m:Str):Prop:=Stat st d (d.N.take d.np) m (f9 c m)
section
variable [Tbs] {K:AQ} {mg:Str->Option AG} {h:BI} {f c m:Str} {d:Def} {st:Bf} {Ca:AH} {b:Bool} {U:Str->List Str}
def FnA.ok(A:FnA K Tbs.ps b f st)(X:K.In h)(G:h.Ns AO mg)(S:StF st d f:=by exact⟨⟨⟨rfl,rfl,rfl,by decide+kernel,rfl,by decide+kernel,by decide+kernel⟩,rfl,by decide+kernel⟩,λ_ _ _ _ _ _=>by(repeat refine bdS λ_=>?_);exact bdZ rfl⟩)(g:(d.N.contains t9=AC->b=AC):=by decide+kernel):DefOk K mg f d:=by
 obtain⟨p,m,t,k,n,o,q,l,s,r,j,c,i,e,a⟩:=A;exact cl5 X G S j c i e λz=>a (g z)
def MtA.ok(A:MtA K Tbs.ps b c Ca m st)(C:ClA K c Ca)(X:K.In h)(G:h.Ns AO mg)(S:StM st d c m:=by exact⟨⟨⟨rfl,rfl,rfl,by decide+kernel,rfl,by decide+kernel,by decide+kernel⟩,rfl,by decide+kernel⟩,λ_ _ _ _ _ _=>by(repeat refine bdS λ_=>?_);exact bdZ rfl⟩)(k:(d.N.contains t9=AC->b=AC):=by decide+kernel)(e:E5 U (f9 c m)=AD:=by decide+kernel)(n:isM c=AF:=by decide+kernel)(l:isM m=AF:=by decide+kernel)(j:f=f9 c m:=by decide+kernel):∃c m,f=f9 c m/\isM c=AF/\isM m=AF/\MthOk K mg (E5 U (f9 c m)) c m d:=by
 obtain⟨v,s,B,q,t,u,w,r,y,x,p,M,i,o,g⟩:=A;subst j;exact⟨c,m,rfl,n,l,cq8 X G S p C.a C.cl M (λz=>by subst z;exact⟨C.ms,M.at_,M.fn,C.kp⟩) i o (λz=>g (k z)) e⟩
def MtD.ok{i:Int}{ps:List Str}(A:MtD K c Ca m st i)(C:ClA K c Ca)(X:K.In h)(G:h.Ns AO mg)(S:Stat0 st d ps)
  (t:∀(T:AH)(j k g:AG)(q:Option AH)(p l:AG)(e:Tok)(s:AJ)(o:Obj)(n:Nat),s.heap.get? T=AA o->o.data=.seq #[.int i e] n->(∀b:List AG,b.length=ps.length->Gr s (Dh m (f9 c m) (D3 st) (B7 st) (o9 st) (.ref T) j k g q p l) ⟨b,[]⟩ (ps.zip b))/\∀b:List AG,b.length+1=ps.length->Gr s (Dh m (f9 c m) (D3 st) (B7 st) (o9 st) (.ref T) j k g q p l) ⟨b,[]⟩ (ps.zip (b++[.int i e])))
  (B:(d.N.contains t9=AF):=by decide+kernel) (r:E5 U (f9 c m)=AA i:=by decide+kernel) (E:isM c=AF:=by decide+kernel) (D:isM m=AF:=by decide+kernel) (x:m≠"__init__":=by decide+kernel) (y:f=f9 c m:=by decide+kernel):∃c m,f=f9 c m/\isM c=AF/\isM m=AF/\MthOk K mg (E5 U (f9 c m)) c m d:=by
 obtain⟨Q,T,O,q,I,L,u,P,j,k,g,p,l,J,e,n,H,M,w,F,v⟩:=A;subst y;exact⟨c,m,rfl,E,D,ca5 X G S (λs o n=>t T j k g q p l e s o n) H C.a C.cl M (λz=>absurd z x) w F v (λz=>by rw[B]at z;cases z) r⟩
end
def j6{e c:Type}{P:e->c->Prop}{a}{b}{l}(h:P a b)(t:∀f d,(f,d)∈l->P f d):∀f d,(f,d)∈(a,b)::l->P f d:=λf d hx=>(AK.1 hx).elim λe=>by grind (t f d)
def bn2{b a:Type}{P:b->a->Prop}:∀f d,(f,d)∈[]->P f d:=nofun
local macro_rules|`(tactic|rfl')=>do
 let l:=("c85 c90 cw0 dg1 c74 c18 cp1 c66 ca8 cz2 cv1 c24 c29 dc3 bn8 c46 e_v c12 c42 c17 c51 c56 c45 cl2 da2 db3 c65 c10 de5 df8 c25 ce1 cd6 ce7 c96 b25 ce2 b99 cq6 b72 ci8 b94 cj5 cz3 cj0 b53 cs7 cw1 c59 b93 cw3 b96 c94 c76 cr1 dc9 cc4 c20 ck7 c34 c27 b48 a71 de4 cd7 cv8 c21 cy5 cm3 cm0 cp0 cr0 cz4 c95 c22 cb5 c39 c04 da3 c44 ce9 db1 c15 cm1 ci5 cm2 cs3 cc8 c58 c81 cq7 cf4 cu5 c64 c62 de6 dh2 di8 db4 dc1 dc7 c05 de3 c31 ct0 cz9 cq1 db8 db9 dh7 or_false false_or cv3 ct1 cl0 cw4 bk5 cy8 cl4 c73 aw6 c92 c13 da9 c14 aw4 ad3 da1 da4 c80 c32 bo7 c75 dd3 c48 ay2 dg2 db6 df3 bo4 c77 co7 c36 c11 cr3 ci7 b33 cp7 cb1 cz7 W9 bk8 az5 a64 c78 List.set_cons_zero List.set_cons_succ List.getElem?_cons_zero getElem?_cons_succ decide_eq_true_eq not_eq_true' decide_eq_false_iff_not if_true if_false true_and and_true false_eq_true Bool.true_eq_false length_cons length_nil String.reduceEq decide_true decide_false Bool.not_true Bool.not_false".splitOn " ").toArray.map fun n=>Lean.mkIdent n.toName
 `(tactic|try simp only[↓df6,↓di3,↓dg3,↓dg4,$[$l:ident],*])
set_option hygiene false
local macro_rules | `(tactic| ∎)=>`(tactic| ((try dsimp only);(first | refine dc5 ?_ | rw [cs5]);rfl'))
set_option hygiene true
variable{n m i dp lv B N:Nat}{P:i9}{G:Gs}{st st':Sto}{Q:DK}{x M y e u v kd' nd kd nm md:D}{p:Pg}{r Γ ks:List Kd}{L R f X:List AH}{dn sa da pa la sh wa ca ka ba aa:AH}{ds xs ys ps p' row ts fr A:List D}{h h' w':Int}{c a b g:Kd}{ws ws':List (Kd×Bool)}
structure PB0(P:i9):Prop where
 mixed:P "_law_mixed"=AA d_law_mixed
 deck:P "_law_deck"=AA d_law_deck
 next:P "_law_next"=AA d_law_next
 power:P "_law_power"=AA d_law_power
 count:P "_law_count"=AA d_law_count
 kind:P "_law_kind"=AA d_law_kind
structure PB(P:i9):Prop extends PB0 P where
 least:P "_law_least"=AA d_law_least
 made:P "_law_made"=AA d_law_made
 nest:P "_law_nest"=AA d_law_nest
 asked:P "_law_asked"=AA d_law_asked
 grown:P "_law_grown"=AA d_law_grown
 inner:P "_law_inner"=AA d_law_inner
 parts:P "_law_parts"=AA d_law_parts
 program:P "_law_program"=AA d_law_program
 names:P "_law_names"=AA d_law_names
def a98{ns:List Int}{lo hi}:∃a:List Int,t5 (ns.map D.int) lo hi=a.map D.int/\a.length<=ns.length:=by
 refine⟨(ns.drop (HT.sIx (ns.map D.int).length 0 lo)).take (HT.sIx (ns.map D.int).length (ns.map D.int).length hi-HT.sIx (ns.map D.int).length 0 lo),by unfold t5;rw[Jw,Jx],?_⟩;rw[DZ,EH];lia
def an9{lo:Int}:(z7 lo n).length=n:=by simp[z7]
def V4{b:Type}(l:List b):l=[]\/∃a c,l=a++[c]:=by
 rcases List.eq_nil_or_concat l with h|⟨a,c,h⟩
 ·exact .inl h
 ·exact .inr ⟨a,c,by rw[h,List.concat_eq_append]⟩
abbrev E6(P:i9)(G:Gs)(n:Nat):D->Spec
 |.fn f=>sem P G n f
 |.clo np N b cs=>O8 P G n np N b cs
 |_=>λ_ _ _=>False
abbrev Cok(P:i9):D->Prop
 |.fn f=>(P f).isSome=AC
 |.clo _ _ _ _=>True
 |_=>False
def ag3{ta}(h:Cok P x)(q:ta st λds st1=>E6 P G n x ds st1 Q):Y1 (Zg P G n) ta st Q x:=by
 cases x<;>first|exact h.elim|exact⟨h,q⟩|exact q
section
variable {T:Type} (subs:T->List T)
inductive Ord:List T->List T->Prop where
 |nil:Ord [] []
 |cons {S l:List T} {c:T}:Ord (S++subs c) l->Ord (S++[c]) (c::l)
inductive Rn:List T->List T->T->Prop where
 |done (t:T):Rn [] [t] t
 |step {h r:T} {l S:List T}:Rn l (S++[h]) r->Rn (h::l) (S++subs h) r
def ck9{S l}(h:Ord subs S l):∀{a S0}{r},Rn subs a (S0++S) r->Rn subs (l.reverse++a) S0 r:=by
 induction h with
 |nil=>simp_all
 |@cons S l c _ d=>
  intro a S0 r q;rw[CM,BV];refine d ?_;rw[<-BV];refine .step ?_;rwa[BV]
end
def none_of{p:AH}(K:Kp [] st st')(h:st' p=AD):st p=AD:=by
 cases z:st p with
 |none=>rfl
 |some u=>rw[K.at' z ∎]at h;cases h
abbrev X1(st st':Sto)(d:D)(xs:List D):Prop:=d=.tup xs\/∃a,d=.ref a/\st a=AD/\st' a=AA (.lst xs)
theorem W5{T:Type}(f:T->Nat):∀{l:List T}{c},c∈l->f c<=(l.map f).sum
 |a::l,c,h=>by
  rw[AZ,Dt]
  rcases AK.mp h with rfl|h
  ·lia
  ·have:=W5 f h;lia
theorem at6{T:Type}{size}{subs:T->List T}(hsz:∀t,size t=1+((subs t).map size).sum):∀l:List T,l.length<=(l.map size).sum
 |[]=>by simp
 |a::l=>by have:=hsz a;have:=at6 hsz l;simp only[AZ,Dt,AW];lia
def cd9{T}{subs}{size}(hsz:∀t,size t=1+((subs t).map size).sum){l S}{r:T}(h:Rn subs l S r):(S.map size).sum<=size r:=by
 induction h with
 |done t=>simp
 |@step h r l S _ a=>
  have:=hsz h;simp only[Ae,EB,AZ,CG,Dt,HB]at a ⊢;lia
structure PM(P:i9)(G:Gs):Prop where
 mop:P "made_of_parts"=AA al9
 few:P "order_of_few"=AA an4
 taken:P "taken"=AA au0
 cst:G.cst "FEW"=AA (.int 2000)
section
variable (T0:PM P G) {T:Type} {enc:T->D} {subs:T->List T} {size:T->Nat} {DH:T->Prop}
include T0
def cs0{J:Sto->Prop}(O:∀{H g i},J H->j i=AD->i∉L->Kp [i] H g->J g)(j0:J j)(hJL:∀{j},J j->∀a∈L,∃o,j a=AA o)(hsz:∀t,size t=1+((subs t).map size).sum)(hg:∀t,DH t->∀c∈subs t,DH c){F:D}(hF:Cok P F)(t:T)(hs:size t<=2000)(Z:DH t)
  (Y:∀c f Q,DH c->J f->Kp L j f->(∀d g,X1 f g d ((subs c).map enc)->J g->Kp L f g->Q d g)->E6 P G n F [enc c] f Q)
  (q:∀a f l,j a=AD->Ord subs [t] l->(∀c∈l,DH c)->f a=AA (.lst (l.map λc=>.tup [enc c,.int (subs c).length]))->J f->Kp L j f->l.length<=size t->Q (.ref a) f):sem P G (n+1) "order_of_few" [enc t,F] j Q:=by
 have I:∀{p:AH},j p=AD->p∉L:=λ{p}Y z=>by
  obtain⟨o,e⟩:=hJL j0 p z;rw[Y]at e;cases e
 refine i5 T0.few rfl [AA (enc t),AA F,AD,AD,AD,AD] rfl ?_;unfold an4;∎;intro o w;∎;intro h E;have s:o≠h:=j9 f6 E;have k:j h=AD:=by
  cases z:j h with
  |none=>rfl
  |some u=>rw[i7 z w]at E;cases E
 have B:=I w;have v:=I k;∎;refine ap9 (λm env f=>∃(i S:List T)(x y:Option D),env=[AA (enc t),AA F,AA (.ref o),AA (.ref h),x,y]/\f o=AA (.lst (i.map λc=>.tup [enc c,.int (subs c).length]))/\f h=AA (.lst (S.map enc))/\(∀l,Ord subs S l->Ord subs [t] (i++l))/\(∀c∈i,DH c)/\(∀c∈S,DH c)/\(S.map size).sum=m/\i.length+m=size t/\J f/\Kp L j f) ?_ _ _ _ ⟨[],[t],AD,AD,rfl,i7 f6 E,f6,λl z=>z,∎,by simpa using Z,rfl,∎,O (O j0 w B (Kp.refl.new w)) k v (Kp.refl.new E),(Kp.refl.new w).new E⟩;rintro m env f _ ⟨i,S,x,y,rfl,h1,h2,h3,gd,gS,h4,h5,Js,K⟩ ih;rw[ag8];rfl';rw[z0 (.inl h2)];rfl'
 rcases V4 S with rfl|⟨S,c,rfl⟩
 ·rw[if_neg ∎];∎;refine f7 (q o f i w ?_ gd h1 Js K ⋯);have:=h3 [] .nil;simpa using this
 ·rw[if_pos (by simp only[Ae,AZ,CG,Ac,AT,AW,BK];lia)];rw[Ae,AZ,CG]at h2;simp only[Ae,AZ,CG,EB,Dt,HB]at h4;have sc:=hsz c;have gc:DH c:=gS c ∎;have A:∀l:List T,l.length<=(l.map size).sum:=λl=>by
   induction l with
   |nil=>simp
   |cons a l ih=>have:=hsz a;simp only[AZ,Dt,AW];lia
  have hl3:=A S;have hl4:=A (subs c);∎;rw[Q9 h2];have U:c9 f h (.lst (S.map enc)) o=AA (.lst (i.map λc=>.tup [enc c,.int (subs c).length])):=f8 h1 s;∎;refine ag3 hF ?_;rfl';have K1:Kp L j (c9 f h (.lst (S.map enc))):=λb u V e=>f8 (K b u V e) (λz=>by rw[z,k]at e;cases e);have J1:J (c9 f h (.lst (S.map enc))):=O Js k v (Kp.refl.put ∎);refine Y c _ _ gc J1 K1 λd g hd Js2 K2=>?_;have o2:=K2.at' U B;have s2:=K2.at' (f6 (st:=f) (a:=h) (o:=.lst (S.map enc))) v;∎;rw[u0 (.inl o2)];have C:∀{R:DK},R (.int (subs c).length) g->U7 d g R:=λ{R}z=>by
   rcases hd with rfl|⟨a,rfl,_,ha⟩
   ·show R _ g;simpa using z
   ·rw[z0 (.inl ha)];simpa using z
  refine⟨trivial,C ?_⟩;rw[C6 o2];refine⟨C4 (by simp only[AT];lia),?_⟩;∎;have W:c9 g o (.lst ((i.map λc=>D.tup [enc c,.int (subs c).length])++[.tup [enc c,.int (subs c).length]])) h=AA (.lst (S.map enc)):=f8 s2 s.symm;rw[u0 (.inl W)];have M:∀{R:DK},R .non (c9 (c9 g o (.lst ((i.map λc=>D.tup [enc c,.int (subs c).length])++[.tup [enc c,.int (subs c).length]]))) h (.lst (S.map enc++(subs c).map enc)))->Y8 (.ref h) d (c9 g o (.lst ((i.map λc=>D.tup [enc c,.int (subs c).length])++[.tup [enc c,.int (subs c).length]]))) R:=λ{R}z=>by
   rcases hd with rfl|⟨a,rfl,N,ha⟩
   ·rw[da8 W];exact⟨p9 (by simp only[AT];lia),z⟩
   ·have X:a≠o:=λz=>by rw[z,U]at N;cases N
    rw[ad5 W (f8 ha X)];exact⟨p9 (by simp only[AT];lia),z⟩
  refine⟨trivial,M ?_⟩;∎;rw[z0 (.inl (f8 f6 s))];rfl';refine⟨.int 2000,T0.cst,?_⟩;rfl';rw[if_neg (by simp only[Ac,AT,AW,BK];lia)];rfl';refine ih ((S++subs c).map size).sum _ _ (by simp only[Ae,EB];lia) ⟨i++[c],S++subs c,_,_,rfl,?_,?_,?_,?_,?_,rfl,?_,O (O Js2 w B (Kp.refl.put ∎)) k v (Kp.refl.put ∎),?_⟩
  ·rw[Ae];exact f8 f6 s
  ·rw[Ae];exact f6
  ·intro l hl;have:=h3 (c::l) (.cons hl);simpa using this
  ·intro z r
   rcases Ap.mp r with r|r
   ·exact gd z r
   ·simp at r;rw[r];exact gc
  ·intro z r
   rcases Ap.mp r with r|r
   ·exact gS z (by simp[r])
   ·exact hg c gc z r
  ·simp only[Ac,AW,BK,Ae,EB];lia
  ·intro b u V e;have eh:b≠h:=λz=>by rw[z,k]at e;cases e
   have eo:b≠o:=λz=>by rw[z,w]at e;cases e
   exact f8 (f8 (K2.at' (K1 b u V e) V) eo) eh
def bb0(s:xs.length=m)(k:st dn=AA (.lst (ds++xs)))(v:xs.length<=2000)
  (q:∀a f,st a=AD->a≠dn->f a=AA (.lst xs)->f dn=AA (.lst ds)->Kp [dn] st f->Q (.ref a) f):sem P G (n+1) "taken" [.ref dn,.int m] st Q:=by
 subst s;refine i5 T0.taken rfl [AA (.ref dn),AA (.int xs.length),AD,AD] rfl ?_;unfold au0;∎;intro o p;have j:dn≠o:=j9 k p;∎;refine⟨⟨⋯,⋯⟩,?_⟩;refine A0 (λl env f=>∃(g h:List D)(x:Option D),xs=g++h/\l.length=g.length/\(∀d∈l,∃i,d=.int i)/\env=[AA (.ref dn),AA (.int xs.length),AA (.ref o),x]/\f dn=AA (.lst (ds++g))/\f o=AA (.lst h.reverse)/\Kp [dn] st f) ?_ ?_ _ _ _ ⟨xs,[],AD,∎,by simp[z7],λd k=>by simp[z7]at k;obtain⟨i,_,rfl⟩:=k;exact⟨_,rfl⟩,rfl,by rw[i7 k p],f6,Kp.refl.new p⟩
 ·rintro env f ⟨g,h,x,e,hl,_,rfl,h1,h2,K⟩;have:g=[]:=by simpa using hl.symm
  subst this;simp only[BH]at e;subst e;refine⟨trivial,?_⟩;∎;rw[c70 h2];∎;refine f7 (q o _ p (λz=>j z.symm) ?_ (f8 (by simpa using h1) j) λb u nb e=>f8 (K b u nb e) (λz=>by rw[z,p]at e;cases e));rw[f6,IM]
 ·rintro d0 dl env f ih ⟨g,h,x,e,hl,hi,rfl,h1,h2,K⟩;obtain⟨i,rfl⟩:=hi d0 ∎
  rcases V4 g with rfl|⟨g,c,rfl⟩
  ·simp at hl
  refine⟨trivial,?_⟩;rfl';∎;rw[u0 (.inl h2),Q9 (by rw[h1,BV]:f dn=AA (.lst ((ds++g)++[c])))];have r:c9 f dn (.lst (ds++g)) o=AA (.lst h.reverse):=f8 h2 j.symm;rw[C6 r];have t:h.length<=xs.length:=by rw[e];simp;lia
  refine⟨trivial,C4 (by rw[FU];lia),?_⟩;rfl';refine ih _ _ ⟨g,c::h,_,by rw[e];simp,by simp at hl ⊢;lia,λd k=>hi d (by simp[k]),rfl,f8 f6 j,by rw[f6,CM],λb u nb e=>f8 (f8 (K b u nb e) (λz=>nb (by simp[z]))) (λz=>by rw[z,p]at e;cases e)⟩
abbrev KpN(L:List AH)(st st':Sto):Prop:=∀b o,b∉L->(∀c fs,o≠.ins c fs)->st b=AA o->st' b=AA o
def bf4{J:Sto->Prop}{L:List AH}(hJ:∀{m g i},J m->st i=AD->i∉L->Kp [i] m g->J g)(j0:J st)(B:∀{st},J st->∀a∈L,∃o,st a=AA o)(hsz:∀t,size t=1+((subs t).map size).sum)(hg:∀t,DH t->∀c∈subs t,DH c){F:D}(hF:Cok P F)(hM:Cok P M)(t:T)(hs:size t<=2000)(hgt:DH t){Y:AH->List T->List D->Sto->Prop}(hYL:∀{i S ds m},Y i S ds m->∀a∈L,∃o,m a=AA o)
  (hY0:∀i st',st i=AD->J st'->Kp L st st'->Y i [] [] st') (R:∀{i S ds m g},st i=AD->Y i S ds m->Kp [i] m g->Y i S ds g)
  (E:∀c st' Q,DH c->J st'->Kp L st st'->(∀d g,X1 st' g d ((subs c).map enc)->J g->Kp L st' g->Q d g)->E6 P G n F [enc c] st' Q)
  (hm:∀c i la st' Q S ds x,DH c->Kp L st st'->st i=AD->la∉L->la≠i->st la=AD->st' la=AA (.lst x)->x.length=(subs c).length->ds.length=S.length->Y i (S++subs c) (ds++x) st'->st' i=AA (.lst ds)->(S.map size).sum+size c<=size t->(∀d g,Y i (S++[c]) (ds++[d]) g->KpN L st' g->Kp L st g->Q d g)->E6 P G (n+1) M [enc c,.ref la] st' Q)
  (q:∀i d st',st i=AD->Y i [t] [d] st'->Kp L st st'->Q d st'):sem P G (n+2) "made_of_parts" [enc t,F,M] st Q:=by
 refine i5 T0.mop rfl [AA (enc t),AA F,AA M,AD,AD,AD,AD] rfl ?_;unfold al9;∎;refine⟨by rw[T0.few];rfl,cs0 T0 (DH:=λc=>DH c/\size c<=2000) (J:=J) (L:=L) hJ j0 B hsz (λc gc c' hc'=>⟨hg c gc.1 c' hc',Bd (W5 size hc') (by have:=hsz c;have:=gc.2;lia)⟩) hF t hs ⟨hgt,hs⟩ (λc st' Q gc=>E c st' Q gc.1) λoa m l hoa0 hord gl hoa Js1 K1 hl=>?_⟩;have hL:=B j0;∎;refine .inr ⟨nofun,?_⟩;rfl';∎;intro i r;have H:oa≠i:=j9 hoa r;have j:st i=AD:=by
  cases e:st i with
  |none=>rfl
  |some u=>
   by_cases z:i∈L
   ·obtain⟨o,e⟩:=B Js1 i z;rw[r]at e;cases e
   ·rw[K1.at' e z]at r;cases r
 have O:i∉L:=λz=>by obtain⟨o,e⟩:=hL i z;rw[j]at e;cases e
 have Z:oa∉L:=λz=>by obtain⟨o,e⟩:=hL oa z;rw[hoa0]at e;cases e
 ∎;refine⟨_,.inl (i7 hoa r),?_⟩;rw[<-Hg];have X:∀(u:Ob)(g:Sto),Kp L st g->Kp L st (c9 g i u):=λu g K b o nb e=>f8 (K b o nb e) (λz=>by rw[z,j]at e;cases e);refine A0 (λll env st'=>∃(w S:List T)(ds:List D)(W V:Option D),ll=w.map (λc=>D.tup [enc c,.int (subs c).length])/\(∀c∈w,DH c/\size c<=2000)/\Rn subs w S t/\env=[AA (enc t),AA F,AA M,AA (.ref oa),AA (.ref i),W,V]/\st' i=AA (.lst ds)/\ds.length=S.length/\S.length+w.length<=100000/\Y i S ds st'/\st' oa=AA (.lst (l.map λc=>.tup [enc c,.int (subs c).length]))/\Kp L st st') ?_ ?_ _ _ _ ⟨l.reverse,[],[],AD,AD,rfl,λc hc=>gl c (by simpa using hc),by simpa using ck9 subs hord (.done t) (S0:=[]) ,rfl,f6,rfl,by simp;lia,hY0 i _ j (hJ Js1 j O (Kp.refl.new r)) (K1.new r),i7 hoa r,(K1.new r).more ∎⟩
 ·rintro env st' ⟨w,S,ds,W,V,el,_,C,rfl,hd,hl',_,hv,hoa',K⟩;have es:w=[]:=by simpa using el.symm
  subst es;refine⟨.inl hoa',?_⟩;cases C;obtain⟨d,rfl⟩:∃d,ds=[d]:=by match ds,hl' with|[d],_=>exact⟨d,rfl⟩
  ∎;rw[n8 (.inl hd)];exact⟨d,rfl,f7 (q i d st' j hv K)⟩
 ·rintro d0 dl env st' ih ⟨w,S,ds,W,V,el,hin,C,rfl,hd,hl',hb,hv,hoa',K⟩;refine⟨.inl hoa',?_⟩;cases w with
  |nil=>simp at el
  |cons h w=>
   simp only[AZ,AY]at el;obtain⟨rfl,rfl⟩:=el;simp only[AW]at hb;have gh:DH h:=(hin h ∎).1;cases C with
   |@step _ _ _ S C=>
   simp only[Ac]at hl' hb;obtain⟨ds,x,rfl,N,I⟩:∃U x,ds=U++x/\U.length=S.length/\x.length=(subs h).length:=⟨ds.take S.length,ds.drop S.length,(FC _ _).symm,by rw[DZ];lia,by rw[EH];lia⟩;have hss:(subs h).length<=2000:=by
    have h1:=(hin h ∎).2;have h2:=hsz h;have h3:=at6 hsz (subs h);lia
   have A:∀la g,la∉L->la≠i->st la=AD->g la=AA (.lst x)->g i=AA (.lst ds)->Kp [i] st' g->E6 P G (n+1) M [enc h,.ref la] g λd st3=>ae0 (.ref i) d st3 λ_ st4=>A7 (λst'=>rdS st' oa (l.map λc=>.tup [enc c,.int (subs c).length])) (.tup [5,6]) (l5 (Zg P G (n+1)) (.cons (.ex (.app (.v 4) (.callv 2 (.cons (.v 5) (.cons (.ite (.cmp .Gt (.v 6) (.int 0)) (.call "taken" (.cons (.v 4) (.cons (.v 6) .nil))) (.lst .nil)) .nil))))) .nil)) ⟨l5 (Zg P G (n+1)) (.cons (.ret (.ix (.v 4) (.int 0))) .nil) (o5 Q),(o5 Q).rt,(o5 Q).bk,(o5 Q).ct⟩ (w.map λc=>D.tup [enc c,.int (subs c).length]) [AA (enc t),AA F,AA M,AA (.ref oa),AA (.ref i),AA (enc h),AA (.int (subs h).length)] st4:=λla g k hne hl0 hl2 hd2 K2=>by
    have KK:Kp L st g:=λb u nb e=>K2.at' (K b u nb e) (by simp;exact λz=>by rw[z,j]at e;cases e);refine hm h i la g _ S ds x gh KK j k hne hl0 hl2 I N (R j hv K2) hd2 (by have:=cd9 hsz C;simpa using this) λd st3 vd N3 K3=>?_;have hd3:=N3 i _ O (λ_ _ z=>by cases z) hd2;rw[C6 hd3];refine⟨C4 ⋯,?_⟩;exact ih _ _ ⟨w,S++[h],ds++[d],_,_,rfl,λc hc=>hin c (by simp[hc]),C,rfl,f6,by simp[N],by simp;lia,R j vd (Kp.refl.put ∎),f8 (N3 oa _ Z (λ_ _ z=>by cases z) (K2.at' hoa' (by simpa using H))) H,X _ _ K3⟩
   have y:∀{p:AH},st' p=AD->p∉L/\st p=AD:=λ{p}E=>by
    by_cases z:p∈L
    ·obtain⟨o,e⟩:=hYL hv p z;rw[E]at e;cases e
    ·refine⟨z,?_⟩;cases e:st p with
     |none=>rfl
     |some u=>rw[K.at' e z]at E;cases E
   rfl';∎;rw[u0 (.inl hd)];refine⟨trivial,ag3 hM ?_⟩;rfl'
   by_cases h0:(subs h).length=0
   ·rw[if_neg ⋯];intro la k;have exs:x=[]:=BD ⋯;subst exs;exact A la _ (y k).1 (j9 hd k).symm (y k).2 f6 (i7 (by simpa using hd) k) (Kp.refl.new k)
   ·rw[if_pos ⋯];refine⟨by rw[T0.taken];rfl,?_⟩;exact bb0 T0 I hd ⋯ λla g k hne hl2 hd2 K2=>A la g (y k).1 hne (y k).2 hl2 hd2 K2
def ce0{W:Type}{J:W->Sto->Prop}{le:W->W->Prop}{L:List AH}(N:∀s,le s s)(I:∀{s t u},le s t->le t u->le s u)(X:∀{s st st' dn},J s st->dn∉L->Kp [dn] st st'->J s st')(hsz:∀t,size t=1+((subs t).map size).sum)(hg:∀t,DH t->∀c∈subs t,DH c){F:D}(hF:Cok P F)(hM:Cok P M)(t:T)(hs:size t<=2000)(H:DH t){V:AH->W->T->D->Sto->Prop}(U:∀{dn s l k d st st'},V dn s k d st->le s l->Kp (dn::L) st st'->V dn l k d st')
  {s0:W} {μ:W->Nat} {B:Nat} (hB:μ s0+size t<=B) (O:J s0 st) (p:∀{s st},J s st->∀a∈L,∃o,st a=AA o)
  (hp:∀c st' Q s,DH c->μ s+1<=B->J s st'->Kp L st st'->(∀d l g,X1 st' g d ((subs c).map enc)->le s l->μ l<=μ s->J l g->Kp L st' g->Q d g)->E6 P G n F [enc c] st' Q)
  (hm:∀c dn m st' Q ds s,DH c->μ s+1<=B->J s st'->Kp L st st'->st dn=AD->m∉L->m≠dn->st m=AD->st' m=AA (.lst ds)->ds.length=(subs c).length->(∀(i:Nat)A d,(subs c)[i]?=AA A->ds[i]?=AA d->V dn s A d st')->(∃C,st' dn=AA (.lst C))->(∀d l g,V dn l c d g->le s l->μ l<=μ s+1->J l g->Kp L st' g->Q d g)->E6 P G (n+1) M [enc c,.ref m] st' Q)
  (q:∀dn d l st',st dn=AD->V dn l t d st'->le s0 l->μ l<=B->J l st'->Kp L st st'->Q d st'):sem P G (n+2) "made_of_parts" [enc t,F,M] st Q:=by
 refine bf4 T0 (J:=λst'=>∃s,J s st'/\le s0 s/\μ s<=μ s0) (L:=L) (λ⟨s,w,r⟩_ a b=>⟨s,X w a b,r⟩) ⟨s0,O,N s0,Ab _⟩ (λ⟨s,h,_⟩=>p h) hsz hg hF hM t hs H (Y:=λdn S ds st'=>∃s,J s st'/\le s0 s/\μ s<=μ s0+(S.map size).sum/\dn∉L/\∀(i:Nat)c d,S[i]?=AA c->ds[i]?=AA d->V dn s c d st') (λ⟨s,h,_⟩=>p h)
  (λdn st' h⟨s,a,b,c⟩_=>⟨s,a,b,c,(λz=>by obtain⟨o,e⟩:=p O dn z;rw[h]at e;cases e),nofun⟩) (λ_⟨s,a,b,c,d,e⟩K=>⟨s,X a d K,b,c,d,λi x y w r=>U (e i x y w r) (N s) (K.more ∎)⟩)
  (λc st' Q gc⟨s,a,b,e⟩K k=>hp c st' Q s gc (by have:=hsz t;lia) a K λd l g w r h3 h4=>k d g w ⟨l,h4,I b r,⋯⟩)
  (λc dn m st' Q S ds C gc K h0 w r h3 h4 h5 h6 hY h7 h8 k=>?_) λdn d st' h0⟨s,a,b,e,_,v⟩K=>q dn d s st' h0 (v 0 t d rfl rfl) b (by simp at e;lia) a K
 obtain⟨s,a,b,e,dL,v⟩:=hY;have sc:=hsz c;rw[Ae,EB]at e;refine hm c dn m st' Q C s gc ⋯ a K h0 w r h3 h4 h5 (λi A d e1 e2=>v (S.length+i) A d (by rw[Au ⋯,Hv];exact e1) (by rw[Au ⋯,h6,Hv];exact e2)) ⟨_,h7⟩ λd l g vd hle hμ Js K2=>k d g ⟨l,Js,I b hle,by simp only[Ae,AZ,CG,EB,Dt,HB];lia,dL,λi A d' e1 e2=>?_⟩ (λb o nb _ e=>K2 b o nb e) (K.trans K2)
 by_cases R:i<S.length
 ·rw[Ag R]at e1;rw[Ag ⋯]at e2;exact U (v i A d' (by rw[Ag R];exact e1) (by rw[Ag ⋯];exact e2)) hle (K2.more (by intro x Z;simp[Z]))
 ·rw[Au ⋯]at e1;rw[Au ⋯]at e2;have E:i-S.length=0:=by
   have:=(AX.mp e1).1;simp at this;lia
  rw[E]at e1;rw[show i-ds.length=0 by lia]at e2;cases e1;cases e2;exact vd
def bk4 hsz(r:∀t,DH t->∀c∈subs t,DH c){F}(hF)hM(t)(m:size t<=2000)hgt{V:AH->T->D->Sto->Prop}(g:∀{dn k d st a},V dn k d st->Kp [dn] st a->V dn k d a)
  (o:∀c a Q,DH c->Kp [] st a->(∀d b,X1 a b d ((subs c).map enc)->Kp [] a b->Q d b)->E6 P G n F [enc c] a Q)
  (p:∀c dn f a Q ds,DH c->st dn=AD->Kp [] st a->st f=AD->f≠dn->a f=AA (.lst ds)->ds.length=(subs c).length->(∀(i:Nat)j d,(subs c)[i]?=AA j->ds[i]?=AA d->V dn j d a)->(∃l,a dn=AA (.lst l))->(∀d b,V dn c d b->Kp [] a b->Q d b)->E6 P G (n+1) M [enc c,.ref f] a Q)
  (q:∀dn d a,st dn=AD->V dn t d a->Kp [] st a->Q d a):=
 ce0 T0 (λ_=>trivial) (λ_ _=>trivial) (λ_ _ _=>trivial) hsz r hF hM t m hgt (V:=λdn _=>V dn) (λv _=>g v) (s0:=()) (μ:=λ_=>0) (B:=4000) ⋯ trivial (λ_=>∎)
  (λc a Q _ gc _ _ K k=>o c a Q gc K λd b h=>k d () b h trivial (Bx _) trivial)
  (λc dn f a Q ds _ gc _ _ K h0 _ hne hl h1 h2 hv hx k=>p c dn f a Q ds gc h0 K hl hne h1 h2 hv hx λd b v=>k d () b v trivial (Bx _) trivial)
  λdn d _ a h0 v _ _ _=>q dn d a h0 v
end
abbrev t6:Nat->List D->List (List D)
 |0,_=>[[]]
 |n+1,cs=>(t6 n cs).flatMap λr=>cs.map λc=>r++[c]
abbrev Kd.things:Kd->List D
 |.non=>[]
 |.one=>[.tup []]
 |.eith a b=>a.things.map (λt=>.tup [.str "l",t])++b.things.map (λt=>.tup [.str "r",t])
 |.both a b=>a.things.flatMap λx=>b.things.map λy=>.tup [.str "p",x,y]
 |.way a b=>(t6 a.things.length b.things).map λr=>.tup [.str "w",.tup r]
theorem J3{a b:Type}(f:a->List b)k(h:∀x,(f x).length=k):∀l:List a,(l.flatMap f).length=l.length*k
 |[]=>by simp
 |x::l=>by rw[CN,Ac,h x,J3 f k h l,AW,EU,Er,II]
theorem S5:∀(n)a,(t6 n a).length=a.length^n
 |0,_=>rfl
 |n+1,a=>by rw[t6,J3 _ a.length λr=>∎,S5 n a,Fx]
theorem o7:∀k:Kd,k.things.length=k.cnt
 |.non=>rfl
 |.one=>rfl
 |.eith a b=>by simp only[Kd.things,Ac,AT,o7 a,o7 b,Kd.cnt]
 |.both a b=>by rw[Kd.things,J3 _ b.things.length (λx=>∎),o7 a,o7 b,Kd.cnt]
 |.way a b=>by rw[Kd.things,AT,S5,o7 a,o7 b,Kd.cnt]
abbrev Kd.subs:Kd->List Kd
 |.non=>[]|.one=>[]|.eith a b=>[a,b]|.both a b=>[a,b]|.way a b=>[a,b]
abbrev Kd.w:Kd->String
 |.non=>"none"|.one=>"one"|.eith _ _=>"either"|.both _ _=>"both"|.way _ _=>"way"
def Kd.d_w(k:Kd):k.d=.tup (.str k.w::k.subs.map Kd.d):=by cases k<;>rfl
def c35{k:Kd}:slR k.d (AA 1) AD st Q=Q (.tup (k.subs.map Kd.d)) st:=by
 rw[Kd.d_w k,bo4];have e:(1:Int)=((1:Nat):Int):=rfl;rw[e,aa8,av0];refine propext ⟨λh=>h.2,λh=>⟨λz=>?_,h⟩⟩;rw[AW]at z;lia
abbrev Kd.pre:Kd->List Kd
 |.non=>[.non]|.one=>[.one]
 |.eith a b=>.eith a b::(b.pre++a.pre)
 |.both a b=>.both a b::(b.pre++a.pre)
 |.way a b=>.way a b::(b.pre++a.pre)
abbrev Kd.size:Kd->Nat
 |.non=>1|.one=>1
 |.eith a b=>1+a.size+b.size
 |.both a b=>1+a.size+b.size
 |.way a b=>1+a.size+b.size
def b77(k:Kd):k.pre=k::(k.subs.reverse.flatMap Kd.pre):=by cases k<;>simp[Kd.pre,Kd.subs]
def R9(k:Kd):k.size=1+(k.subs.map Kd.size).sum:=by cases k<;>simp[Kd.size,Kd.subs]<;>lia
def aq0(k:Kd):k.size+1<=2^(k.nest+1):=by
 have e:∀a b:Kd,a.size+1<=2^(a.nest+1)->b.size+1<=2^(b.nest+1)->1+a.size+b.size+1<=2^(1+max a.nest b.nest+1):=λa b ha hb=>by
  have m:2^(a.nest+1)<=2^(max a.nest b.nest+1):=BX ∅ ⋯;have l:2^(b.nest+1)<=2^(max a.nest b.nest+1):=BX ∅ ⋯;lia
 induction k with
 |non=>decide
 |one=>decide
 |eith a b d c=>exact e a b d c
 |both a b d c=>exact e a b d c
 |way a b d c=>exact e a b d c
def ag0(k:Kd):k∈k.pre:=by cases k<;>simp[Kd.pre]
def a81:∀{k h c:Kd},h∈k.pre->c∈h.pre->c∈k.pre:=by
 intro k
 induction k with
 |non=>intro h c d g;simp[Kd.pre]at d;subst d;exact g
 |one=>intro h c d g;simp[Kd.pre]at d;subst d;exact g
 |eith a b f e|both a b f e|way a b f e=>
  intro h c d g;simp only[Kd.pre,AK,Ap]at d
  rcases d with rfl|d|d
  ·exact g
  ·simp only[Kd.pre,AK,Ap];exact .inr (.inl (e d g))
  ·simp only[Kd.pre,AK,Ap];exact .inr (.inr (f d g))
def bl4{k h:Kd}(hh:h∈k.pre)(hc:c∈h.subs):c∈k.pre:=by
 refine a81 hh ?_;rw[b77 h];exact As _ (Be.mpr ⟨c,by simp_all,ag0 c⟩)
def a94:∀{k c:Kd},c∈k.pre->c.size<=k.size:=by
 intro k
 induction k with
 |non=>intro c d;simp[Kd.pre]at d;subst d;exact Ab _
 |one=>intro c d;simp[Kd.pre]at d;subst d;exact Ab _
 |eith a b f e|both a b f e|way a b f e=>
  intro c d;simp only[Kd.pre,AK,Ap]at d;simp only[Kd.size]
  rcases d with rfl|d|d
  ·exact Ab _
  ·have:=e d;lia
  ·have:=f d;lia
structure PT0(P:i9)(G:Gs):Prop extends PM P G where
 bu:P "built_up"=AA ap6
structure PT1(P:i9)(G:Gs):Prop extends PT0 P G where
 things:P "things"=AA ar2
 joined:P "joined_things"=AA al5
 pairs:P "pairs"=AA as6
 rows:P "rows_over"=AA ao6
section
variable (T:PT0 P G) 
include T
def bc1{V:AH->Kd->D->Sto->Prop}{J:Str}(t:∀{dn k d st e},V dn k d st->Kp [dn] st e->V dn k d e)(k:Kd)(E:k.size<=2000)(L:1<=n){r:AH}{v0 v1:D}(s:st r=AA (.dct [(.inr "none",v0),(.inr "one",v1)]))(u:(P J).isSome=AC)
  (I:∀dn e,st dn=AD->Kp [] st e->V dn .non v0 e) (H:∀dn e,st dn=AD->Kp [] st e->V dn .one v1 e)
  (F:∀(h a b:Kd)(dn:AH)(l j:D)(e:Sto)(Q:DK),h∈k.pre->Kp [] st e->h.subs=[a,b]->V dn a l e->V dn b j e->(∃ds,e dn=AA (.lst ds))->(∀d g,V dn h d g->Kp [] e g->Q d g)->sem P G n J [.str h.w,l,j] e Q)
  (q:∀dn d e,st dn=AD->V dn k d e->Kp [] st e->Q d e):sem P G (n+3) "built_up" [k.d,.ref r,.fn J] st Q:=by
 obtain⟨n,rfl⟩:∃m,n=m+1:=⟨n-1,⋯⟩;refine i5 T.bu rfl [AA k.d,AA (.ref r),AA (.fn J),AD,AD,AD,AD] rfl ?_;unfold ap6;(iterate 2 ∎);refine⟨by rw[T.mop];rfl,bk4 T.toPM (n:=n+1) (enc:=Kd.d) (subs:=Kd.subs) (size:=Kd.size) (DH:=λh=>h∈k.pre) R9 (V:=V) (λh hh c hc=>bl4 hh hc) (show Cok P (.clo _ _ _ _) from trivial) (show Cok P (.clo _ _ _ _) from trivial) k E (ag0 k) t (λc e Q hc K q=>?_) (λc dn la e Q ds hc hdn K hla hne hl hlen hv hxs q=>?_) λdn d e hdn v K=>f7 (q dn d e hdn v K)⟩
 ·refine ab5 rfl [AA c.d] rfl ?_;∎;rw[c35];exact f7 (q _ _ (.inl rfl) Kp.refl)
 ·refine ab5 rfl [AA c.d,AA (.ref la),AA (.ref r),AA (.fn J)] rfl ?_;have p:=K.at' s ∎;∎;rw[Kd.d_w c];rfl';rw[di2 p];have x:G6 [((Bi "none":Key),v0),(.inr "one",v1)] (.inr c.w)=if c=.non then AA v0 else if c=.one then AA v1 else AD:=by
   cases c<;>simp[G6,Kd.w,p5]
  rw[x];rfl';have o:∀v,(if c=Kd.non then AA v0 else if c=.one then AA v1 else AD)=AA v->V dn c v e->if(if c=Kd.non then AA v0 else if c=Kd.one then AA v1 else AD).isSome=AC then ixR (D.ref r) (D.str (AV c.w)) e (o5 Q).rt else(P J).isSome=AC/\ixR (D.ref la) (D.int 0) e λd st1=>ixR (D.ref la) (D.int 1) st1 λd_1 st1=>sem P G (n+1) J [D.str (AV c.w),d,d_1] st1 (o5 Q).rt:=λv hv1 hv2=>by
   rw[hv1];simp only[FR,if_true];rw[dc6 p (x.trans hv1)];exact f7 (q v e hv2 Kp.refl)
  have i:∀a b:Kd,c.subs=[a,b]->(if c=Kd.non then AA v0 else if c=.one then AA v1 else AD)=AD->if(if c=Kd.non then AA v0 else if c=Kd.one then AA v1 else AD).isSome=AC then ixR (D.ref r) (D.str (AV c.w)) e (o5 Q).rt else(P J).isSome=AC/\ixR (D.ref la) (D.int 0) e λd st1=>ixR (D.ref la) (D.int 1) st1 λd_1 st1=>sem P G (n+1) J [D.str (AV c.w),d,d_1] st1 (o5 Q).rt:=λa b hsub hno=>by
   rw[hno];simp only[Option.isSome_none,Bj,if_false];rw[hsub]at hlen hv;obtain⟨l,j,rfl⟩:∃l j,ds=[l,j]:=by match ds,hlen with|[l,j],_=>exact⟨l,j,rfl⟩
   refine⟨u,?_⟩;rw[n8 (.inl hl)];refine⟨l,rfl,?_⟩;rw[n8 (.inl hl)];exact⟨j,rfl,F c a b dn l j e _ hc K hsub (hv 0 a l rfl rfl) (hv 1 b j rfl rfl) hxs λd g v K2=>f7 (q d g v K2)⟩
  cases c with
  |non=>exact o v0 ∎ (I dn e hdn K)
  |one=>exact o v1 ∎ (H dn e hdn K)
  |eith a b=>exact i a b rfl ∎
  |both a b=>exact i a b rfl ∎
  |way a b=>exact i a b rfl ∎
end
theorem G0{g:Sto->Prop}{o:DB}{m:DT}{R:List D->Sto->Prop}(f:D->D)(h:j8->Prop)(b:∀env d,h env->h (env.set i (AA d)))(e:∀env K,K AC st->o env st K)(c:∀env d K,h env->K (f d) st->m (env.set i (AA d)) st K)(j:g st):
  ∀(ds a:List D)(env:j8),h env->R (a++ds.map f) st->B1 g (.n i) o m R ds a env st
 |[],a,env,l,k=>by rw[V8];exact⟨j,by simpa using k⟩
 |d::ds,a,env,l,k=>by
  rw[R8,W9];refine⟨j,e _ _ ?_⟩;rw[if_pos rfl];exact c env d _ l (G0 f h b e c j ds (a++[f d]) _ (b env d l) (by simpa using k))
def af4{c:Nat}(h:i<=n):c^i<=max 1 (c^n):=by
 cases c with
 |zero=>
  cases i with
  |zero=>simp;lia
  |succ i=>rw[Km ⋯];lia
 |succ c=>exact Bd (BX ⋯ h) ⋯
section
variable (T:PT1 P G) 
include T
def b67{j:AH}(k:st j=AA (.lst xs))(v:st sa=AA (.lst ys))(hz:xs.length*ys.length<=1000000)(r:ys.length<=1000000)(q:∀a f,st a=AD->f a=AA (.lst (xs.flatMap λx=>ys.map λy=>.tup [.str "p",x,y]))->Kp [] st f->Q (.ref a) f):sem P G (n+1) "pairs" [.ref j,.ref sa] st Q:=by
 refine i5 T.pairs rfl [AA (.ref j),AA (.ref sa),AD,AD] rfl ?_;intro m g;∎;refine⟨_,.inl (i7 k g),?_⟩;refine A0 (λl env f=>∃(c:List D)(x:Option D),xs=c++l/\env=[AA (.ref j),AA (.ref sa),AA (.ref m),x]/\f m=AA (.lst (c.flatMap λx=>ys.map λy=>.tup [.str "p",x,y]))/\Kp [] st f) ?_ ?_ _ _ _ ⟨[],AD,rfl,rfl,f6,Kp.refl.new g⟩
 ·rintro env f ⟨c,x,e,rfl,hs,K⟩;refine⟨.inl (K.at' k ∎),?_⟩;∎;rw[Ao]at e;subst e;exact f7 (q m f g hs K)
 ·rintro d ds env f ih ⟨c,x,e,rfl,hs,K⟩;refine⟨.inl (K.at' k ∎),?_⟩;rfl';∎;rw[u0 (.inl hs)];have i:=K.at' v ∎;refine⟨trivial,ys,.inl i,r,?_⟩;refine G0 (λy=>.tup [.str "p",d,y]) (λenv=>∃x,env=[AA d,x]) (λenv y h=>by obtain⟨x,rfl⟩:=h;exact⟨_,rfl⟩) (λenv K h=>h) (λenv y K h hk=>by
   obtain⟨x,rfl⟩:=h;rfl';exact hk) (.inl i) _ _ _ ⟨AD,rfl⟩ ?_
  intro p o;rw[ad5 (i7 hs o) f6];have w:(c.flatMap λx=>ys.map λy=>D.tup [.str "p",x,y]).length=c.length*ys.length:=J3 _ _ (λx=>∎) _;have s:c.length*ys.length+ys.length<=1000000:=by
   have:xs.length=c.length+(ds.length+1):=by rw[e];simp
   have t:(c.length+1)*ys.length<=xs.length*ys.length:=CQ _ ⋯;rw[EU,Er]at t;lia
  refine⟨p9 (by rw[w];simp only[BH,AT];lia),?_⟩;rfl';refine ih _ _ ⟨c++[d],_,by rw[e];simp,rfl,by rw[f6,Fy];simp,λb u nb eb=>f8 (i7 (K b u nb eb) o) (j9 eb g)⟩
def cc9{g:List D}(h2:st sa=AA (.lst g))(hz:max 1 (g.length^m)<=100000)(hm:m<=1000)(hc:g.length<=100000)(q:∀a k,st a=AD->k a=AA (.lst ((t6 m g).map D.tup))->Kp [] st k->Q (.ref a) k):sem P G (n+1) "rows_over" [.int m,.ref sa] st Q:=by
 refine i5 T.rows rfl [AA (.int m),AA (.ref sa),AD,AD,AD,AD] rfl ?_;intro s t;∎;refine⟨⋯,?_⟩;refine A0 (λl env k=>∃(i:Nat)(s:AH)(H F w:Option D),i+l.length=m/\env=[AA (.int m),AA (.ref sa),AA (.ref s),H,F,w]/\st s=AD/\k s=AA (.lst ((t6 i g).map D.tup))/\Kp [] st k) ?_ ?_ _ _ _ ⟨0,s,AD,AD,AD,by simp[z7],rfl,t,f6,Kp.refl.new t⟩
 ·rintro env k ⟨i,s,H,F,w,hi,rfl,t,hs,K⟩;∎;subst hi;exact f7 (q s k t hs K)
 ·rintro d ds env k ih ⟨i,s,H,F,w,hi,rfl,t,hs,K⟩;refine⟨trivial,?_⟩;simp only[AW]at hi;rfl';∎;intro A o;have J:s≠A:=j9 hs o;have B:st A=AD:=by
   cases z:st A with
   |none=>rfl
   |some u=>rw[K.at' z ∎]at o;cases o
  ∎;refine⟨_,.inl (i7 hs o),?_⟩;have b1:=af4 (c:=g.length) (i:=i+1) (n:=m) ⋯;refine A0 (λl env st2=>∃(f j:List (List D))(w:Option D),t6 i g=f++j/\l=j.map D.tup/\env=[AA (.int m),AA (.ref sa),AA (.ref s),AA d,AA (.ref A),w]/\st2 A=AA (.lst ((f.flatMap λr=>g.map λc=>r++[c]).map D.tup))/\st2 s=AA (.lst ((t6 i g).map D.tup))/\Kp [] st st2) ?_ ?_ _ _ _ ⟨[],t6 i g,_,rfl,rfl,rfl,f6,i7 hs o,K.new o⟩
  ·rintro env st2 ⟨f,j,w,e,el,rfl,hl,v,K2⟩;refine⟨.inl v,?_⟩;have es:j=[]:=by simpa using el.symm
   subst es;rw[Ao]at e;∎;exact ih _ _ ⟨i+1,A,_,_,_,⋯,rfl,B,by rw[t6,e];exact hl,K2⟩
  ·rintro d2 ds2 env st2 ih2 ⟨f,j,w,e,el,rfl,hl,v,K2⟩;refine⟨.inl v,?_⟩;cases j with
   |nil=>simp at el
   |cons r j=>
    simp only[AZ,AY]at el;obtain⟨rfl,rfl⟩:=el;have C:=K2.at' h2 ∎;have Y:f.length+(j.length+1)=g.length^i:=by have:=S5 i g;rw[e]at this;simpa using this
    have R:r.length<=1000:=by
     have U:∀(i:Nat),∀r∈t6 i g,r.length=i:=λi=>by
      induction i with
      |zero=>intro r v;simp[t6]at v;simp[v]
      |succ i I=>
       intro r v;simp only[t6,Be,Aq]at v;obtain⟨V,L,c,_,rfl⟩:=v;simp[I V L]
     have:=U i r (by rw[e];simp);lia
    rfl';∎;rw[u0 (.inl hl)];refine⟨trivial,g,.inl C,⋯,?_⟩;refine G0 (λc=>.tup (r++[c])) (λenv=>∃x,env=[AA (.tup r),x]) (λenv y h=>by obtain⟨x,rfl⟩:=h;exact⟨_,rfl⟩) (λenv K h=>h) (λenv y K h hk=>by
     obtain⟨x,rfl⟩:=h;rfl';exact⟨p9 ⋯,hk⟩) (.inl C) _ _ _ ⟨AD,rfl⟩ ?_
    intro p E;rw[ad5 (i7 hl E) f6];have M:(f.flatMap λr=>g.map λc=>r++[c]).length=f.length*g.length:=J3 _ _ (λx=>∎) _;have Z:f.length*g.length+g.length<=100000:=by
     have h3:(f.length+1)*g.length<=g.length^i*g.length:=CQ _ ⋯;rw[EU,Er]at h3;rw[Fx]at b1;lia
    refine⟨p9 (by rw[AT,M];simp only[BH,AT];lia),?_⟩;rfl';have X:s≠p:=j9 v E;refine ih2 _ _ ⟨f++[r],j,_,by rw[e];simp,rfl,rfl,?_,f8 (i7 v E) J,λb u nb eb=>f8 (i7 (K2 b u nb eb) E) (λz=>by rw[z,B]at eb;cases eb)⟩;rw[f6,Fy,Ae];simp[BN,Bp]
abbrev VT(s0:Sto)(dn:AH)(k:Kd)(d:D)(st:Sto):Prop:=∃a,d=.ref a/\a≠dn/\s0 a=AD/\st a=AA (.lst k.things)
def bw5{s0:Sto}{h:Kd}{I H:D}(C:Kp [] s0 st)(o:h.subs=[a,b])(j:h.bd 100)(hn:1<=n)(v1:VT s0 dn a I st)(S:VT s0 dn b H st)(g:∃ds,st dn=AA (.lst ds))(q:∀d c,VT s0 dn h d c->Kp [] st c->Q d c):sem P G (n+1) "joined_things" [.str h.w,I,H] st Q:=by
 obtain⟨n,rfl⟩:∃m,n=m+1:=⟨n-1,⋯⟩;obtain⟨X,rfl,nf,_,v⟩:=v1;obtain⟨U,rfl,Z,_,k⟩:=S;obtain⟨Y,g⟩:=g;have l:∀(p:AH)(c:Sto),st p=AD->p≠dn:=λp c f z=>by rw[z,g]at f;cases f
 refine i5 T.joined rfl [AA (.str h.w),AA (.ref X),AA (.ref U)] rfl ?_;have B:=o7 a;have A:=o7 b;cases h with
 |non=>cases o
 |one=>cases o
 |eith O N=>
  cases o;have M:=Kd.bd_le j.1;have L:=Kd.bd_le j.2.1;simp only[Kd.w];(iterate 2 ∎);refine⟨_,.inl v,⋯,?_⟩;refine G0 (λt=>.tup [.str "l",t]) (λenv=>∃x,env=[x]) (λenv y h=>by obtain⟨x,rfl⟩:=h;exact⟨_,rfl⟩) (λenv K h=>h) (λenv y K h hk=>by
   obtain⟨x,rfl⟩:=h;rfl';exact hk) (.inl v) _ _ _ ⟨AD,rfl⟩ ?_
  intro p f;have i:=i7 (u:=.lst ([]++a.things.map λt=>D.tup [.str "l",t])) k f;refine⟨_,.inl i,⋯,?_⟩;refine G0 (λt=>.tup [.str "r",t]) (λenv=>∃x,env=[x]) (λenv y h=>by obtain⟨x,rfl⟩:=h;exact⟨_,rfl⟩) (λenv K h=>h) (λenv y K h hk=>by
   obtain⟨x,rfl⟩:=h;rfl';exact hk) (.inl i) _ _ _ ⟨AD,rfl⟩ ?_
  intro E e;rw[bl1];refine⟨_,_,i7 f6 e,f6,p9 (by simp only[BH,AT];lia),λp3 hp3=>f7 (q _ _ ⟨p3,rfl,?_,none_of (((C.new f).new e)) hp3,?_⟩ (((Kp.refl.new f).new e).new hp3))⟩
  ·exact(j9 (i7 (i7 g f) e) hp3).symm
  ·rw[f6];rfl
 |both O N=>
  cases o;have M:=Kd.bd_le j.1;have L:=Kd.bd_le j.2.1;simp only[Kd.w];(iterate 3 ∎);refine⟨by rw[T.pairs];rfl,b67 T v k (by rw[B,A];have:=j.2.2;lia) ⋯ λp c f hs2 K=>f7 (q _ _ ⟨p,rfl,l p c f,none_of C f,hs2⟩ K)⟩
 |way O N=>
  cases o;have M:=Kd.bd_le j.1;have L:=Kd.bd_le j.2.1;have bw:b.cnt^a.cnt<=100:=j.2.2;simp only[Kd.w];(iterate 3 ∎);rw[z0 (.inl v)];refine⟨by rw[T.rows];rfl,cc9 T k (by rw[B,A];lia) ⋯ ⋯ λp c f hs2 K=>?_⟩;rfl';refine⟨_,.inl hs2,by rw[AT,S5,B,A];lia,?_⟩;refine G0 (λr=>.tup [.str "w",r]) (λenv=>∃x,env=[x]) (λenv y h=>by obtain⟨x,rfl⟩:=h;exact⟨_,rfl⟩) (λenv K h=>h) (λenv y K h hk=>by
   obtain⟨x,rfl⟩:=h;rfl';exact hk) (.inl hs2) _ _ _ ⟨AD,rfl⟩ ?_
  intro E e;have s:=K.at' g ∎;refine f7 (q _ _ ⟨E,rfl,(j9 s e).symm,none_of (C.trans K) e,?_⟩ (K.new e));rw[f6,BH,BN];rfl
omit T in
theorem cw7:∀{k h:Kd},k.bd m->h∈k.pre->h.bd m:=by
 intro k
 induction k with
 |non=>intro h hb hm;simp[Kd.pre]at hm;subst hm;exact hb
 |one=>intro h hb hm;simp[Kd.pre]at hm;subst hm;exact hb
 |eith a b iha ihb|both a b iha ihb|way a b iha ihb=>
  intro h hb hm;simp only[Kd.pre,AK,Ap]at hm
  rcases hm with rfl|hm|hm
  ·exact hb
  ·exact ihb hb.2.1 hm
  ·exact iha hb.1 hm
def bz8{k:Kd}(w:6<=n)(s:k.bd 100)(x:k.nest<=9)(q:∀a c,st a=AD->c a=AA (.lst k.things)->Kp [] st c->Q (.ref a) c):sem P G n "things" [k.d] st Q:=by
 obtain⟨n,rfl⟩:∃m,n=m+6:=⟨n-6,⋯⟩;have r:k.size<=2000:=by
  have:=aq0 k;have:2^(k.nest+1)<=2^10:=BX ∅ ⋯;lia
 refine i5 T.things rfl [AA k.d] rfl ?_;∎;refine⟨by rw[T.bu];rfl,λp0 hp0 p1 hp1 pd hpd=>⟨by rw[T.joined];rfl,?_⟩⟩;have g:=none_of (Kp.refl.new hp0) hp1;generalize f:c9 (c9 (c9 st p0 (.lst [])) p1 (.lst [D.tup []])) pd _=st3;have l:st3 p0=AA (.lst []):=by rw[<-f];exact i7 (i7 f6 hp1) hpd
 have j:st3 p1=AA (.lst [D.tup []]):=by rw[<-f];exact i7 f6 hpd
 have t:st3 pd=AA (.dct [(.inr "none",.ref p0),(.inr "one",.ref p1)]):=by rw[<-f];exact f6
 have o:Kp [] st st3:=by rw[<-f];exact((Kp.refl.new hp0).new hp1).new hpd
 refine bc1 T.toPT0 (n:=n+2) (V:=VT st) (λ{u k d p c}v K=>?_) k r ⋯ (v0:=.ref p0) (v1:=.ref p1) t (by rw[T.joined];rfl) (λdn c hdn K=>⟨p0,rfl,λz=>?_,hp0,K.at' l ∎⟩) (λdn c hdn K=>⟨p1,rfl,λz=>?_,g,K.at' j ∎⟩) (λh a b u d1 d2 c Q hh KK hsub v1 v2 hdn q=>bw5 T (n:=n+1) (o.trans KK) hsub (cw7 s hh) ⋯ v1 v2 hdn q) λdn d c hdn v K=>?_
 ·obtain⟨a,rfl,h,i,e⟩:=v;exact⟨a,rfl,h,i,K.at' e (by simp;exact h)⟩
 ·rw[<-z,l]at hdn;cases hdn
 ·rw[<-z,j]at hdn;cases hdn
 ·obtain⟨a,rfl,h,i,e⟩:=v;exact f7 (q a c i e (o.trans K))
end
mutual
noncomputable def D.lit:D->Bool
 |.int _=>AC
 |.str x=>CW (.str x)
 |.tup ds=>D.lits ds
 |_=>AF
noncomputable def D.lits:List D->Bool
 |[]=>AC
 |d::r=>d.lit&&D.lits r
end
mutual
theorem ag2:∀d:D,d.lit=AC->d.pure=AC
 |.int _,_=>rfl
 |.str _,h=>h
 |.tup ds,h=>by rw[V9];exact V2 ds h
 |.non,h=>nomatch h
 |.bl _,h=>nomatch h
 |.ref _,h=>nomatch h
 |.fn _,h=>nomatch h
theorem V2:∀ds:List D,D.lits ds=AC->D.pures ds=AC
 |[],_=>rfl
 |d::r,h=>by
  have h':d.lit=AC/\D.lits r=AC:=by simpa[D.lits]using h
  rw[V3,ag2 d h'.1,V2 r h'.2];rfl
end
mutual
theorem ah2:∀x y:D,x.lit=AC->y.lit=AC->(deq x y=AC↔x=y)
 |.int i,y,hx,hy=>by
  cases y<;>first|(simp[D.lit]at hy;done)|skip
  ·rw[as0];simp
  ·constructor
   ·intro h;simp[deq,D.py,Av]at h
   ·intro h;cases h
  ·constructor
   ·intro h;simp[deq,D.py,Av]at h
   ·intro h;cases h
 |.str x,y,hx,hy=>by
  cases y<;>first|(simp[D.lit]at hy;done)|skip
  ·constructor
   ·intro h;simp[deq,D.py,Av]at h
   ·intro h;cases h
  ·rw[N8];simp
  ·constructor
   ·intro h;simp[deq,D.py,Av]at h
   ·intro h;cases h
 |.tup xs,y,hx,hy=>by
  cases y<;>first|(simp[D.lit]at hy;done)|skip
  ·constructor
   ·intro h;simp[deq,D.py,Av]at h
   ·intro h;cases h
  ·constructor
   ·intro h;simp[deq,D.py,Av]at h
   ·intro h;cases h
  ·rename_i ys;rw[W4,ar1 xs ys hx hy];simp
 |.non,y,hx,hy=>nomatch hx
 |.bl _,y,hx,hy=>nomatch hx
 |.ref _,y,hx,hy=>nomatch hx
 |.fn _,y,hx,hy=>nomatch hx
theorem ar1:∀xs ys:List D,D.lits xs=AC->D.lits ys=AC->(E9 xs ys=AC↔xs=ys)
 |[],[],_,_=>by simp[E9]
 |[],y::ys,_,_=>by simp[E9]
 |x::xs,[],_,_=>by simp[E9]
 |x::xs,y::ys,hx,hy=>by
  have h1:x.lit=AC/\D.lits xs=AC:=by simpa[D.lits]using hx
  have h2:y.lit=AC/\D.lits ys=AC:=by simpa[D.lits]using hy
  rw[E9,BL,ah2 x y h1.1 h2.1,ar1 xs ys h1.2 h2.2,AY]
end
def ar3(b:x.lit=AC)(a:y.lit=AC)(h:x≠y):deq x y=AF:=by
 cases e:deq x y with
 |false=>rfl
 |true=>exact absurd ((ah2 x y b a).mp e) h
def ba6(hx:x.lit=AC):deq x x=AC:=(ah2 x x hx hx).mpr rfl
def P1:D.lits ds=AC↔∀d∈ds,d.lit=AC:=by
 induction ds with
 |nil=>simp[D.lits]
 |cons d r c=>simp[D.lits,c]
def L3(s:String):(D.str (AV s)).lit=AC:=F7 s
def J4:(D.tup ds).lit=D.lits ds:=rfl
def D2{d:D}{r:List D}:D.lits (d::r)=(d.lit&&D.lits r):=rfl
def N7:D.lits []=AC:=rfl
theorem F8:∀(n:Nat)(b r:List D),r∈t6 n b->r.length=n/\∀d∈r,d∈b
 |0,b,r,h=>by simp[t6]at h;subst h;simp
 |n+1,b,r,h=>by
  simp only[t6,Be,Aq]at h;obtain⟨e,f,c,g,rfl⟩:=h;obtain⟨j,i⟩:=F8 n b e f;refine⟨by simp[j],λd a=>?_⟩
  rcases Ap.mp a with a|a
  ·exact i d a
  ·simp only[Am]at a;subst a;exact g
theorem J0:∀(k:Kd)(t:D),t∈k.things->t.lit=AC/\l8 t<=2*k.nest+1
 |.non,t,h=>by simp[Kd.things]at h
 |.one,t,h=>by simp only[Kd.things,Am]at h;subst h;exact⟨rfl,by rw[D9];simp[y6,Kd.nest]⟩
 |.eith a b,t,h=>by
  simp only[Kd.things,Ap,Aq]at h;simp only[Kd.nest]
  rcases h with⟨x,c,rfl⟩|⟨x,c,rfl⟩
  ·obtain⟨f,i⟩:=J0 a x c;exact⟨by simp only[J4,D2,N7,L3,f,Cm],by simp only[D9,y6,D4];lia⟩
  ·obtain⟨f,i⟩:=J0 b x c;exact⟨by simp only[J4,D2,N7,L3,f,Cm],by simp only[D9,y6,D4];lia⟩
 |.both a b,t,h=>by
  simp only[Kd.things,Be,Aq]at h;simp only[Kd.nest];obtain⟨x,c,y,n,rfl⟩:=h;obtain⟨f,i⟩:=J0 a x c;obtain⟨p,q⟩:=J0 b y n;exact⟨by simp only[J4,D2,N7,L3,f,p,Cm],by simp only[D9,y6,D4];lia⟩
 |.way a b,t,h=>by
  simp only[Kd.things,Aq]at h;simp only[Kd.nest];obtain⟨r,o,rfl⟩:=h;obtain⟨_,e⟩:=F8 _ _ _ o;have g:y6 r<=2*b.nest+1:=by
   have:∀r:List D,(∀d∈r,d∈b.things)->y6 r<=2*b.nest+1:=λr=>by
    induction r with
    |nil=>intro _;exact Bx _
    |cons d r m=>
     intro e;have:=(J0 b d (e d ∎)).2;have:=m λd g=>e d (by simp[g]);rw[y6];exact Nat.max_le.mpr ⟨⋯,⋯⟩
   exact this r e
  refine⟨?_,by simp only[D9,y6,D4];lia⟩;simp only[J4,D2,N7,L3,Bool.and_true,Bool.true_and];exact P1.mpr λd g=>(J0 b d (e d g)).1
theorem ao8{h k:Type}{f:h->List k}:∀{l:List h},l.Nodup->(∀x∈l,(f x).Nodup)->(∀x∈l,∀y∈l,∀z,z∈f x->z∈f y->x=y)->(l.flatMap f).Nodup
 |[],_,_,_=>by simp
 |x::l,m,i,j=>by
  rw[CN,Cr];have d:=BU.mp m;refine⟨i x ∎,ao8 d.2 (λy c=>i y (by simp[c])) (λy c z hz=>j y (by simp[c]) z (by simp[hz])),λa ha b hb e=>?_⟩;subst e;obtain⟨y,c,g⟩:=Be.mp hb;exact d.1 (j x ∎ y (by simp[c]) a ha g▸c)
def aa6{c d:Type}{f:c->d}(g:∀x y,f x=f y->x=y){l:List c}(h:l.Nodup):(l.map f).Nodup:=Dv f (λa b hab e=>hab (g a b e)) h
theorem a09{cs}(h:cs.Nodup):∀n,(t6 n cs).Nodup
 |0=>by simp[t6]
 |n+1=>by
  refine ao8 (a09 h n) (λr _=>aa6 (λx y e=>by simpa using e) h) λr _ r' _ z hz hz'=>?_;obtain⟨c,_,rfl⟩:=Aq.mp hz;simp_all
theorem R6:∀k:Kd,k.things.Nodup
 |.non=>by simp[Kd.things]
 |.one=>by simp[Kd.things]
 |.eith a b=>by
  rw[Kd.things,Cr];refine⟨aa6 (λx y e=>by simpa using e) (R6 a),aa6 (λx y e=>by simpa using e) (R6 b),λx hx y hy e=>?_⟩;obtain⟨t,_,rfl⟩:=Aq.mp hx;obtain⟨t',_,rfl⟩:=Aq.mp hy;simp[p5]at e
 |.both a b=>by
  refine ao8 (R6 a) (λx _=>aa6 (λy y' e=>by simpa using e) (R6 b)) (λx _ x' _ z hz hz'=>?_);obtain⟨y,_,rfl⟩:=Aq.mp hz;obtain⟨y',_,e⟩:=Aq.mp hz';simp at e;exact e.1.symm
 |.way a b=>by
  exact aa6 (λx y e=>by simpa using e) (a09 (R6 b) _)
theorem af2{g:Type}:∀{l:List g},l.Nodup->∀(i j:Nat)(x:g),l[i]?=AA x->l[j]?=AA x->i=j
 |[],_,i,j,x,h,_=>by simp at h
 |a::l,k,i,j,x,f,e=>by
  have d:=BU.mp k;cases i with
  |zero=>
   cases j with
   |zero=>rfl
   |succ j=>
    simp at f;subst f;exact absurd (At (by simpa using e)) d.1
  |succ i=>
   cases j with
   |zero=>
    simp at e;subst e;exact absurd (At (by simpa using f)) d.1
   |succ j=>rw[af2 d.2 i j x (by simpa using f) (by simpa using e)]
def cw8{a:AH}{k:Kd}{j:Nat}{t:D}(h:st a=AA (.lst k.things))(g:k.nest<=20)(c:k.things[j]?=AA t)(q:Q (.int j) st):S9 (.ref a) t st Q:=by
 have f:=At c;obtain⟨b,l⟩:=J0 k t f;refine⟨k.things,.inl h,ag2 t b,V2 _ (P1.mpr λd hd=>(J0 k d hd).1),⋯,j,t,c,ba6 b,λi e hi he=>?_,q⟩;refine ar3 (J0 k e (At he)).1 b λz=>?_;subst z;have:=af2 (R6 k) i j _ he c;lia
inductive Lk where
 |fst|snd|giv (p:D)
variable{ls:List Lk}
abbrev Lk.d:Lk->D
 |.fst=>.tup [.str "first"]|.snd=>.tup [.str "second"]|.giv p=>.tup [.str "give",p]
abbrev Lk.on(e:D):Lk->D
 |.fst=>.tup [.str "first",e]|.snd=>.tup [.str "second",e]|.giv p=>.tup [.str "give",e,p]
abbrev exD(i:Nat)(ls:List Lk):D:=ls.foldl Lk.on (.tup [.str "name",.int i])
def L5{l:Lk}:exD i (ls++[l])=l.on (exD i ls):=by simp[exD]
structure Ask where
 lv:Nat
 ls:List Lk
 k:Kd
variable{q:Ask}{qs:List Ask}
abbrev Kd.mute:Kd->Bool
 |.non=>AF|.one=>AC|.eith _ _=>AF
 |.both a b=>a.mute&&b.mute
 |.way a b=>a.cnt==0||b.mute
abbrev Kd.rk:Kd->Nat
 |.non=>1|.one=>1
 |.eith a b=>2+max a.rk b.rk
 |.both a b=>1+a.rk+b.rk
 |.way a b=>1+a.cnt*b.rk
abbrev rks(l:List Ask):Nat:=(l.map λq=>q.k.rk).sum
def G3(k:Kd):1<=k.rk:=by cases k<;>simp[Kd.rk]<;>lia
def l0{l:List Ask}:rks (q::l)=q.k.rk+rks l:=by simp[rks]
def P9{a b:List Ask}:rks (a++b)=rks a+rks b:=by simp[rks]
mutual
inductive Pl:Kd->D->D->Prop where
 |one:Pl .one (.tup []) (.tup [.str "star"])
 |l {a b:Kd} {t p:D}:Pl a t p->Pl (.eith a b) (.tup [.str "l",t]) (.tup [.str "left",b.d,p])
 |r {a b:Kd} {t p:D}:Pl b t p->Pl (.eith a b) (.tup [.str "r",t]) (.tup [.str "right",a.d,p])
 |both {a b:Kd} {t u p q:D}:Pl a t p->Pl b u q->Pl (.both a b) (.tup [.str "p",t,u]) (.tup [.str "pair",p,q])
 |way {a b:Kd} {row ps:List D} {x:D}:Pls b row ps->Tr b 1 [⟨0,[],a⟩] ps x []->Pl (.way a b) (.tup [.str "w",.tup row]) (.tup [.str "way",a.d,x])
inductive Pls:Kd->List D->List D->Prop where
 |nil {k:Kd}:Pls k [] []
 |cons {k:Kd} {t p:D} {ts ps:List D}:Pl k t p->Pls k ts ps->Pls k (t::ts) (p::ps)
inductive Tr:Kd->Nat->List Ask->List D->D->List D->Prop where
 |nil {g:Kd} {dp:Nat} {p:D} {ps:List D}:Tr g dp [] (p::ps) p ps
 |mute {g:Kd} {dp:Nat} {q:Ask} {r:List Ask} {ps p':List D} {x:D}:q.k.mute=AC->Tr g dp r ps x p'->Tr g dp (q::r) ps x p'
 |non {g:Kd} {dp lv:Nat} {ls:List Lk} {r:List Ask} {ps:List D}:Tr g dp (⟨lv,ls,.non⟩::r) ps (.tup [.str "never",g.d,exD (dp-1-lv) ls]) ps
 |eith {g a b:Kd} {dp lv:Nat} {ls:List Lk} {r:List Ask} {ps p1 p2:List D} {x y:D}:Tr g (dp+1) (⟨dp,[],a⟩::r) ps x p1->Tr g (dp+1) (⟨dp,[],b⟩::r) p1 y p2->Tr g dp (⟨lv,ls,.eith a b⟩::r) ps (.tup [.str "case",exD (dp-1-lv) ls,x,y]) p2
 |both {g a b:Kd} {dp lv:Nat} {ls:List Lk} {r:List Ask} {ps p':List D} {x:D}:Tr g dp (⟨lv,ls++[.fst],a⟩::⟨lv,ls++[.snd],b⟩::r) ps x p'->Tr g dp (⟨lv,ls,.both a b⟩::r) ps x p'
 |way {g a b:Kd} {dp lv:Nat} {ls:List Lk} {r:List Ask} {gs ps p':List D} {x:D}:Pls a a.things gs->Tr g dp (gs.map (λp=>⟨lv,ls++[.giv p],b⟩)++r) ps x p'->Tr g dp (⟨lv,ls,.way a b⟩::r) ps x p'
end
abbrev TrI(g:Kd)(dp lv:Nat)(ls:List Lk)(r:List Ask)(ps:List D)(x:D)(p':List D):Kd->Prop
 |.non=>x=.tup [.str "never",g.d,exD (dp-1-lv) ls]/\p'=ps
 |.one=>False
 |.eith a b=>∃p1 u v,x=.tup [.str "case",exD (dp-1-lv) ls,u,v]/\Tr g (dp+1) (⟨dp,[],a⟩::r) ps u p1/\Tr g (dp+1) (⟨dp,[],b⟩::r) p1 v p'
 |.both a b=>Tr g dp (⟨lv,ls++[.fst],a⟩::⟨lv,ls++[.snd],b⟩::r) ps x p'
 |.way a b=>∃gs,Pls a a.things gs/\Tr g dp (gs.map (λp=>⟨lv,ls++[.giv p],b⟩)++r) ps x p'
def Tr.inv{k:Kd}{r:List Ask}(h:Tr g dp (⟨lv,ls,k⟩::r) ps x p')(hm:¬k.mute=AC):TrI g dp lv ls r ps x p' k:=by
 cases h with
 |mute h _=>exact absurd h hm
 |non=>exact⟨rfl,rfl⟩
 |eith t u=>exact⟨_,_,_,rfl,t,u⟩
 |both t=>exact t
 |way p t=>exact⟨_,p,t⟩
theorem Pls.len{k}:∀{ts ps},Pls k ts ps->ts.length=ps.length
 |[],ps,h=>by cases h;rfl
 |t::ts,ps,h=>by cases h with|cons _ h=>simp[Pls.len h]
theorem J6:∀(k:Kd),k.mute=AC->∀{g:Kd}{dp o:Nat}{ls:List Lk}{r:List Ask}{ps f:List D}{x:D},Tr g dp (⟨o,ls,k⟩::r) ps x f->Tr g dp r ps x f
 |.non,h=>by cases h
 |.one,_=>by
  intro t;cases t with|mute _ t=>exact t
 |.eith _ _,h=>by cases h
 |.both a b,h=>by
  intro t;simp only[Kd.mute,BL]at h;cases t with
  |mute _ t=>exact t
  |both t=>exact J6 b h.2 (J6 a h.1 t)
 |.way a b,h=>by
  intro t;simp only[Kd.mute,Jv,beq_iff_eq]at h;cases t with
  |mute _ t=>exact t
  |@way _ _ _ _ _ _ _ d _ _ _ j t=>
   have i:=j.len;rw[o7]at i
   rcases h with h|h
   ·have e:d=[]:=BD ⋯;subst e;simpa using t
   ·clear j i
    induction d with
    |nil=>simpa using t
    |cons p d q=>
     exact q (J6 b h t)
abbrev Q8(k:Kd):Prop:=∀t p q,Pl k t p->Pl k t q->p=q
theorem ac3{k}(h:Q8 k):∀{ts ps qs},Pls k ts ps->Pls k ts qs->ps=qs
 |[],ps,qs,a,b=>by cases a;cases b;rfl
 |t::ts,ps,qs,a,b=>by
  cases a with
  |cons g f=>cases b with
   |cons e d=>rw[h _ _ _ g e,ac3 h f d]
def c69:∀(n:Nat){asks:List Ask}(hn:rks asks<=n)(hP:∀q∈asks,∀k:Kd,k∈q.k.pre->k≠q.k->Q8 k){g:Kd}{dp:Nat}{ps p1 p2:List D}{x y:D},Tr g dp asks ps x p1->Tr g dp asks ps y p2->x=y/\p1=p2:=by
 intro n
 induction n with
 |zero=>
  intro asks hn hP g dp ps p1 p2 x y t u;cases asks with
  |nil=>cases t;cases u;exact⟨rfl,rfl⟩
  |cons q r=>rw[l0]at hn;have:=G3 q.k;lia
 |succ n ih=>
  intro asks hn hP g dp ps p1 p2 x y t u;cases asks with
  |nil=>cases t;cases u;exact⟨rfl,rfl⟩
  |cons q r=>
   obtain⟨lv,ls,k⟩:=q;rw[l0]at hn;have pk:=G3 k;simp only at hn;have hPr:∀q∈r,∀k:Kd,k∈q.k.pre->k≠q.k->Q8 k:=λq hq=>hP q (by simp[hq]);have hPk:∀c:Kd,c∈k.pre->c≠k->Q8 c:=hP ⟨lv,ls,k⟩ ∎
   by_cases hm:k.mute=AC
   ·exact ih ⋯ hPr (J6 k hm t) (J6 k hm u)
   have sub:∀{c d:Kd},c∈k.subs->d∈c.pre->Q8 d:=λ{c d}hc hd=>by
    refine hPk d (a81 (bl4 (ag0 k) hc) hd) λz=>?_;subst z;have h1:=a94 hd;have h2:=R9 d;have h3:c.size<=(d.subs.map Kd.size).sum:=W5 Kd.size hc;lia
   have t:=t.inv hm;have u:=u.inv hm;cases k with
   |one=>exact t.elim
   |non=>exact⟨t.1.trans u.1.symm,t.2.trans u.2.symm⟩
   |eith a b=>
     obtain⟨_,_,_,rfl,t1,t2⟩:=t;obtain⟨_,_,_,rfl,u1,u2⟩:=u;simp only[Kd.rk]at hn;have hA:∀c∈(Kd.eith a b).subs,∀q∈(⟨dp,[],c⟩:Ask)::r,∀k:Kd,k∈q.k.pre->k≠q.k->Q8 k:=λc hc q hq d hd hne=>by
      rcases AK.mp hq with rfl|hq
      ·exact sub hc hd
      ·exact hPr q hq d hd hne
     obtain⟨rfl,rfl⟩:=ih (by rw[l0];simp only;lia) (hA a (by simp[Kd.subs])) t1 u1;obtain⟨rfl,rfl⟩:=ih (by rw[l0];simp only;lia) (hA b (by simp[Kd.subs])) t2 u2;exact⟨rfl,rfl⟩
   |both a b=>
     simp only[Kd.rk]at hn;refine ih (by rw[l0,l0];simp only;lia) (λq hq d hd hne=>?_) t u;simp only[AK]at hq
     rcases hq with rfl|rfl|hq
     ·exact sub (c:=a) (by simp[Kd.subs]) hd
     ·exact sub (c:=b) (by simp[Kd.subs]) hd
     ·exact hPr q hq d hd hne
   |way a b=>
     obtain⟨gs,g1,t1⟩:=t;obtain⟨_,g2,u1⟩:=u;have e:=ac3 (sub (c:=a) (by simp[Kd.subs]) (ag0 a)) g1 g2;subst e;simp only[Kd.rk]at hn;have hl:=g1.len;rw[o7]at hl;have hr:rks (gs.map (λp=>(⟨lv,ls++[.giv p],b⟩:Ask)))=gs.length*b.rk:=by
      generalize gs=l
      induction l with
      |nil=>simp[rks]
      |cons p l ih=>rw[AZ,l0,ih,AW,EU,Er,II]
     refine ih (by rw[P9,hr,<-hl];lia) (λq hq d hd hne=>?_) t1 u1
     rcases Ap.mp hq with hq|hq
     ·obtain⟨p,_,rfl⟩:=Aq.mp hq;exact sub (c:=b) (by simp[Kd.subs]) hd
     ·exact hPr q hq d hd hne
def ai5:∀(n:Nat)(k:Kd),k.size<=n->Q8 k:=by
 intro n
 induction n with
 |zero=>intro k h;have:=R9 k;lia
 |succ n v=>
  intro k E t p q C g;have f:∀c∈k.subs,Q8 c:=λc hc=>v c (by have:=R9 k;have:=W5 Kd.size hc;lia);cases C with
  |one=>cases g;rfl
  |l a=>cases g with|l b=>rw[f _ (by simp[Kd.subs]) _ _ _ a b]
  |r a=>cases g with|r b=>rw[f _ (by simp[Kd.subs]) _ _ _ a b]
  |both a c=>cases g with|both b d=>rw[f _ (by simp[Kd.subs]) _ _ _ a b,f _ (by simp[Kd.subs]) _ _ _ c d]
  |@way a b A D x w z=>cases g with
   |way o y=>
    have e:=ac3 (f b (by simp[Kd.subs])) w o;subst e;have:=c69 (rks [⟨0,[],a⟩]) (Ab _) (λq g d hd hne=>by
     simp only[Am]at g;subst g;refine v d ?_;have w:=a94 hd;have o:=R9 (.way a b);simp only[Kd.subs,AZ,CG,Dt,HB]at o;lia) z y
    rw[this.1]
structure PKs(P:i9)(G:Gs):Prop extends PT1 P G where
 within:P "things_within"=AA ak0
 plt:P "plain_thing"=AA ak4
 plb:P "plain_by_parts"=AA aj8
 pltab:P "plain_table"=AA ak5
 anames:P "asked_names"=AA ak3
 expr:P "expression"=AA ak9
 opened:P "opened"=AA aa2
 nothing:P "asks_nothing"=AA ak1
 jask:P "joined_asking"=AA aj9
 looked:P "looked_at"=AA al4
 asking:P "asking"=AA ao3
 nexta:P "next_asked"=AA ak6
 deck:P "_law_deck"=AA L0
 next:P "_law_next"=AA am8
 crossed:P "_law_crossed"=AA ak2
 lthings:P "_law_things"=AA R4
 many:P "_law_many"=AA ae7
 lrows:P "_law_rows"=AA am7
 kind:P "_law_kind"=AA N4
 names:P "_law_names"=AA am2
inductive Lv:Nat->Kd->Prop where
 |one {d:Nat}:Lv d .one
 |non {d:Nat}:Lv (d+1) .non
 |two {d:Nat}:Lv d (.eith .one .one)
 |eith {d:Nat} {a b:Kd}:Lv d a->Lv d b->Lv (d+1) (.eith a b)
 |both {d:Nat} {a b:Kd}:Lv d a->Lv d b->Lv (d+1) (.both a b)
 |way {d:Nat} {a b:Kd}:Lv d a->Lv d b->Lv (d+1) (.way a b)
theorem Lv.nest{d:Nat}{k:Kd}(h:Lv d k):k.nest<=d+1:=by
 induction h with
 |one=>exact Bx _
 |non=>exact Bx _
 |two=>simp[Kd.nest]
 |eith _ _ b a|both _ _ b a|way _ _ b a=>simp only[Kd.nest];lia
def Lv.mono{d:Nat}{k:Kd}(h:Lv d k):Lv (d+1) k:=by
 induction h with
 |one=>exact .one
 |non=>exact .non
 |two=>exact .two
 |eith _ _ b a=>exact .eith b a
 |both _ _ b a=>exact .both b a
 |way _ _ b a=>exact .way b a
theorem Lv.subs{d}{k}(h:Lv (d+1) k)(a:c∈k.subs):Lv d c:=by
 cases h with
 |one=>simp[Kd.subs]at a
 |non=>simp[Kd.subs]at a
 |two=>simp[Kd.subs]at a;subst a;exact .one
 |eith e b|both e b|way e b=>simp only[Kd.subs,AK,Aa,or_false]at a;rcases a with rfl|rfl<;>assumption
def Lv.subs'{d}{k}(h:Lv d k)(a:c∈k.subs):Lv d c:=by
 cases h with
 |one=>simp[Kd.subs]at a
 |non=>simp[Kd.subs]at a
 |two=>simp[Kd.subs]at a;subst a;exact .one
 |eith e b|both e b|way e b=>simp only[Kd.subs,AK,Aa,or_false]at a;rcases a with rfl|rfl<;>(refine Lv.mono ?_;assumption)
abbrev rkb:Nat->Nat
 |0=>3|1=>7|_=>29
def lv0{k}(h:Lv 0 k):k.cnt<=2/\k.rk<=3:=by
 cases h<;>simp[Kd.cnt,Kd.rk]
def lv1{k:Kd}(h:Lv 1 k):k.cnt<=4/\k.rk<=7:=by
 cases h with
 |one=>simp[Kd.cnt,Kd.rk]
 |non=>simp[Kd.cnt,Kd.rk]
 |two=>simp[Kd.cnt,Kd.rk]
 |eith d c=>have:=lv0 d;have:=lv0 c;simp only[Kd.cnt,Kd.rk];lia
 |@both _ a b d c=>
  have f:=lv0 d;have e:=lv0 c;simp only[Kd.cnt,Kd.rk];have:a.cnt*b.cnt<=2*2:=Cs f.1 e.1;lia
 |@way _ a b d c=>
  have f:=lv0 d;have e:=lv0 c;simp only[Kd.cnt,Kd.rk];have n:b.cnt^a.cnt<=2^2:=Bd (Fc e.1 _) (BX ∅ f.1);have m:a.cnt*b.rk<=2*3:=Cs f.1 e.2;lia
def lv2{k}(h:Lv 2 k):k.rk<=29:=by
 cases h with
 |one=>simp[Kd.rk]
 |non=>simp[Kd.rk]
 |two=>simp[Kd.rk]
 |eith d c=>have:=lv1 d;have:=lv1 c;simp only[Kd.rk];lia
 |both d c=>have:=lv1 d;have:=lv1 c;simp only[Kd.rk];lia
 |@way _ a b d c=>
  have m:=lv1 d;have l:=lv1 c;simp only[Kd.rk];have n:=Cs m.1 l.2;lia
def av9{d}{k}(hd:d<=2)(h:Lv d k):k.rk<=rkb d:=by
 obtain rfl|rfl|rfl:d=0\/d=1\/d=2:=by lia
 ·exact(lv0 h).2
 ·exact(lv1 h).2
 ·exact lv2 h
section
variable (T:PKs P G)
include T
def ab1{a:AH}{m:Int}(c:0<m)(h:D8 st a)(q:∀r b,0<=r->r<m->D8 b a->Kp [a] st b->Q (.int r) b):sem P G (n+1) "_law_next" [.ref a,.int m] st Q:=by
 obtain⟨l,h⟩:=h;refine i5 T.next rfl [AA (.ref a),AA (.int m)] rfl ?_;unfold am8;dsimp only;∎;rw[z0 (.inl h)];rfl';cases l with
 |nil=>
  rw[if_pos ∎];∎;exact f7 (q 0 st (LA _) c ⟨[],h⟩ Kp.refl)
 |cons x l=>
  rw[if_neg (by simp only[AZ,AW];lia)];∎;rw[u0 (.inl h)];refine⟨trivial,⟨∅,∅⟩,_,0,.int x,h,by simp[ixN],rfl,?_⟩;simp only[bk5];refine⟨c,f7 (q _ _ (HC _ ⋯) (GA _ c) ⟨l,?_⟩ (Kp.refl.put ∎))⟩;rw[f6];rfl
def ag4(F:m<=2^40):∀(k:Kd){n:Nat}{st:Sto}{Q:DK},k.nest+1<=n->(∀a b,k=.eith a b\/k=.both a b\/k=.way a b->a.bd m/\b.bd m)->Q (.int k.cnt) st->sem P G n "_law_many" [k.d] st Q:=by
 have o:∀(w:String)(n:Nat)(st:Sto)(Q:DK),(w="none"\/w="one")->Q (.int (if w="one" then 1 else 0)) st->sem P G (n+1) "_law_many" [.tup [.str w]] st Q:=λw n st Q hw q=>by
  refine i5 T.many rfl [AA (.tup [.str w]),AD,AD,AD,AD] rfl ?_;unfold ae7;∎
  rcases hw with rfl|rfl
  ·rfl';∎;exact f7 (by simpa using q)
  ·rfl';∎;exact f7 (by simpa using q)
 have c:∀(w:String)(a b:Kd)(n:Nat)(st:Sto)(Q:DK)(v:Nat),(∀Q:DK,Q (.int a.cnt) st->sem P G n "_law_many" [a.d] st Q)->(∀Q:DK,Q (.int b.cnt) st->sem P G n "_law_many" [b.d] st Q)->a.bd m->b.bd m ->
   ((w="either"/\v=a.cnt+b.cnt)\/(w="both"/\v=a.cnt*b.cnt)\/(w="way"/\v=b.cnt^a.cnt))->Q (.int v) st->sem P G (n+1) "_law_many" [.tup [.str w,a.d,b.d]] st Q:=λw a b n st Q v ha r j i hw q=>by
  have E:=Kd.bd_le j;have C:=Kd.bd_le i;refine i5 T.many rfl [AA (.tup [.str w,a.d,b.d]),AD,AD,AD,AD] rfl ?_;unfold ae7;∎;have B:¬(w="none"):=by rcases hw with⟨rfl,_⟩|⟨rfl,_⟩|⟨rfl,_⟩<;>decide
  have A:¬(w="one"):=by rcases hw with⟨rfl,_⟩|⟨rfl,_⟩|⟨rfl,_⟩<;>decide
  simp only[p5,B,A,decide_false,if_false,Bj];∎;refine⟨by rw[T.many];rfl,ha _ ?_⟩;∎;refine⟨by rw[T.many];rfl,r _ ?_⟩
  rcases hw with⟨rfl,rfl⟩|⟨rfl,rfl⟩|⟨rfl,rfl⟩
  ·(iterate 2 ∎);exact f7 (by simpa using q)
  ·(iterate 3 ∎);exact⟨T3 ⟨⋯,⋯⟩,f7 (by simpa using q)⟩
  ·(iterate 4 ∎);refine⟨⋯,?_⟩;refine A0 (λl env st'=>st'=st/\∃(f:Nat)(x:Option D),env=[AA (.tup [.str "way",a.d,b.d]),AA (.int a.cnt),AA (.int b.cnt),AA (.int f),x]/\f*b.cnt^l.length=b.cnt^a.cnt) ?_ ?_ _ _ _ ⟨rfl,1,AD,rfl,by simp[z7]⟩
   ·rintro env st' ⟨rfl,f,x,rfl,e⟩;refine⟨trivial,?_⟩;∎;have:f=b.cnt^a.cnt:=by rw[<-e];simp
    rw[this];exact f7 q
   ·rintro d ds env st' ih ⟨rfl,f,x,rfl,e⟩;refine⟨trivial,?_⟩;rfl';∎;refine⟨T3 ⟨⋯,⋯⟩,ih _ _ ⟨rfl,f*b.cnt,_,by rw[HD],?_⟩⟩;rw[<-e,AW,Fx,GH,LY b.cnt]
 intro k
 induction k with
 |non=>intro n st Q p _ q;obtain⟨n,rfl⟩:∃k,n=k+1:=⟨n-1,⋯⟩;exact o "none" n st Q (.inl rfl) q
 |one=>intro n st Q p _ q;obtain⟨n,rfl⟩:∃k,n=k+1:=⟨n-1,⋯⟩;exact o "one" n st Q (.inr rfl) q
 |eith a b h g=>
  intro n st Q p r q;obtain⟨n,rfl⟩:∃k,n=k+1:=⟨n-1,⋯⟩;simp only[Kd.nest]at p;have⟨j,i⟩:=r a b (.inl rfl);exact c "either" a b n st Q _ (λQ q=>h ⋯ (Q3 j) q) (λQ q=>g ⋯ (Q3 i) q) j i (.inl ⟨rfl,rfl⟩) q
 |both a b h g=>
  intro n st Q p r q;obtain⟨n,rfl⟩:∃k,n=k+1:=⟨n-1,⋯⟩;simp only[Kd.nest]at p;have⟨j,i⟩:=r a b (.inr (.inl rfl));exact c "both" a b n st Q _ (λQ q=>h ⋯ (Q3 j) q) (λQ q=>g ⋯ (Q3 i) q) j i (.inr (.inl ⟨rfl,rfl⟩)) q
 |way a b h g=>
  intro n st Q p r q;obtain⟨n,rfl⟩:∃k,n=k+1:=⟨n-1,⋯⟩;simp only[Kd.nest]at p;have⟨j,i⟩:=r a b (.inr (.inr rfl));exact c "way" a b n st Q _ (λQ q=>h ⋯ (Q3 j) q) (λQ q=>g ⋯ (Q3 i) q) j i (.inr (.inr ⟨rfl,rfl⟩)) q
def ba3{most:Nat}(U:2<=most)(F:most<=20):∀(d:Nat){n:Nat}{st:Sto}{Q:DK}{da:AH},2*d+4<=n->D8 st da->(∀k f,Lv d k->k.bd most->D8 f da->Kp [da] st f->Q k.d f)->sem P G n "_law_kind" [.ref da,.int d,.int most] st Q:=by
 have x:Kd.one.bd most:=show 1<=most by lia
 have A:(Kd.eith .one .one).bd most:=⟨x,x,U⟩;have i:∀(d:Nat){n:Nat}{st:Sto}{Q:DK}{da:AH}(r:Int),D8 st da->(∀k f,Lv d k->k.bd most->D8 f da->Kp [da] st f->Q k.d f)->l5 (Zg P G (n+1)) (match N4.body.drop 2 with|.cons (.iff _ b _) _=>b|_=>.nil) ⟨l5 (Zg P G (n+1)) (N4.body.drop 3) (o5 Q),(o5 Q).rt,(o5 Q).bk,(o5 Q).ct⟩ [AA (.ref da),AA (.int d),AA (.int most),AA (.int r),AA (.tup [.str "either",.tup [.str "one"],.tup [.str "one"]]),AD,AD,AD] st:=by
  intro d n st Q da r I q;∎;intro p g;refine⟨by rw[T.next];rfl,ab1 T ∅ (I.new g) λj st2 j0 j1 I2 K2=>?_⟩;rw[n8 (.inl (K2.at' f6 (by simp;exact λz=>I.ne g z.symm)))];have l:Kp [da] st st2:=(Kp.refl.new g).trans K2
  rcases(show j=0\/j=1\/j=2 by lia)with rfl|rfl|rfl
  ·exact⟨Kd.one.d,rfl,f7 (q .one _ .one x I2 l)⟩
  ·exact⟨(Kd.eith .one .one).d,rfl,f7 (q _ _ .two A I2 l)⟩
  ·exact⟨(Kd.eith .one .one).d,rfl,f7 (q _ _ .two A I2 l)⟩
 intro d
 induction d with
 |zero=>
  intro n st Q da O I q;obtain⟨n,rfl⟩:∃m,n=m+2:=⟨n-2,⋯⟩;refine i5 T.kind rfl [AA (.ref da),AA (.int (0:Nat)),AA (.int most),AD,AD,AD,AD,AD] rfl ?_;unfold N4;∎;refine⟨by rw[T.next];rfl,ab1 T ∅ I λr st2 r0 r1 I2 K2=>?_⟩;(iterate 2 ∎);exact i 0 r I2 λk f a b c e=>q k f a b c (K2.trans e)
 |succ d E=>
  intro n st Q da O I q;obtain⟨n,rfl⟩:∃m,n=m+2:=⟨n-2,⋯⟩;refine i5 T.kind rfl [AA (.ref da),AA (.int (d+1:Nat)),AA (.int most),AD,AD,AD,AD,AD] rfl ?_;unfold N4;∎;refine⟨by rw[T.next];rfl,ab1 T ∅ I λr st2 r0 r1 I2 K2=>?_⟩;(iterate 2 ∎);have S:¬(((d+1:Nat):Int)=0):=by lia
  have v:((d+1:Nat):Int)-1=(d:Int):=by lia
  by_cases J:r=0
  ·subst J;simp only[if_true];exact i (d+1) 0 I2 λk f a b c e=>q k f a b c (K2.trans e)
  simp only[J,if_false];∎
  by_cases H:r=1
  ·subst H;simp only[if_true];∎;intro p g;refine⟨by rw[T.next];rfl,ab1 T ∅ (I2.new g) λj st3 j0 j1 I3 l=>?_⟩;rw[n8 (.inl (l.at' f6 (by simp;exact λz=>I2.ne g z.symm)))];have y:Kp [da] st st3:=(K2.new g).trans l
   rcases(show j=0\/j=1 by lia)with rfl|rfl
   ·exact⟨Kd.non.d,rfl,f7 (q .non _ .non trivial I3 y)⟩
   ·exact⟨Kd.one.d,rfl,f7 (q .one _ .one x I3 y)⟩
  simp only[H,if_false];∎;rw[v];refine⟨by rw[T.kind];rfl,E ⋯ I2 λka st3 la ba I3 l=>?_⟩;∎;rw[v];refine⟨by rw[T.kind];rfl,E ⋯ I3 λkb st4 lb bb I4 y=>?_⟩;∎;intro p g;have L:=I4.new (u:=.lst [.str "either",.str "both",.str "way"]) g;have K:=((K2.trans l).trans y).new (o:=.lst [.str "either",.str "both",.str "way"]) g;have Z:=la.nest;have Y:=lb.nest;have s:∀(w:String)(k:Kd),k.d=.tup [.str w,ka.d,kb.d]->Lv (d+1) k->(∀a b,k=.eith a b\/k=.both a b\/k=.way a b->a.bd 20/\b.bd 20)->(k.cnt<=most->k.bd most)->k.nest<=d+2->l5 (Zg P G (n+1)) (N4.body.drop 7) (o5 Q) [AA (.ref da),AA (.int (d+1:Nat)),AA (.int most),AA (.int r),AA (.tup [.str "either",.tup [.str "one"],.tup [.str "one"]]),AA ka.d,AA kb.d,AA (.tup [.str w,ka.d,kb.d])] (c9 st4 p (.lst [.str "either",.str "both",.str "way"])):=by
   intro w k R N W V X;simp only[N4,Ss.drop];∎;rw[<-R];refine⟨by rw[T.many];rfl,ag4 T (m:=20) ∅ k ⋯ W ?_⟩;rfl'
   by_cases t:(most:Int)<k.cnt
   ·simp only[t,if_true];∎;exact f7 (q (.eith .one .one) _ .two A L K)
   ·simp only[t,if_false];∎;exact f7 (q k _ N (V ⋯) L K)
  have B:ka.bd 20/\kb.bd 20:=⟨Kd.bd_mono F ba,Kd.bd_mono F bb⟩;have M:r % 3=0\/r % 3=1\/r % 3=2:=by lia
  refine⟨∅,?_⟩
  rcases M with e|e|e
  ·rw[e];refine⟨.str "either",rfl,?_⟩;exact s "either" (.eith ka kb) rfl (.eith la lb) (λa b e=>by rcases e with e|e|e<;>cases e;exact B) (λh=>⟨ba,bb,h⟩) (by simp only[Kd.nest];lia)
  ·rw[e];refine⟨.str "both",rfl,?_⟩;exact s "both" (.both ka kb) rfl (.both la lb) (λa b e=>by rcases e with e|e|e<;>cases e;exact B) (λh=>⟨ba,bb,h⟩) (by simp only[Kd.nest];lia)
  ·rw[e];refine⟨.str "way",rfl,?_⟩;exact s "way" (.way ka kb) rfl (.way la lb) (λa b e=>by rcases e with e|e|e<;>cases e;exact B) (λh=>⟨ba,bb,h⟩) (by simp only[Kd.nest];lia)
end
section
variable (T:PKs P G)
include T
def b17{a:AH}{ns:List Int}(hl:ns.length<=63)(h:rdS st a (ns.map D.int))(q:∀p f,D8 f p->Kp [] st f->Q (.ref p) f):sem P G (n+1) "_law_deck" [.ref a] st Q:=by
 refine i5 T.deck rfl [AA (.ref a),AD,AD,AD,AD] rfl ?_;intro p C;have I:a≠p:=h.elim (λh=>j9 h C) (λh=>j9 h C);∎;have N:rdS (c9 st p (.lst [])) a (ns.map D.int):=h.elim (λh=>.inl (i7 h C)) (λh=>.inr (i7 h C));rw[bq1 N];obtain⟨E,Y,V⟩:=a98 (ns:=ns) (lo:=AD) (hi:=AA 63);rw[Y];intro s H;have F:p≠s:=j9 f6 H;have v:∀{f:Sto}{u:Ob},rdS f a (ns.map D.int)->rdS (c9 f p u) a (ns.map D.int):=λh=>h.elim (λh=>.inl (f8 h I)) (λh=>.inr (f8 h I));have B:∀{f:Sto}{u:Ob},rdS f s (E.map D.int)->rdS (c9 f p u) s (E.map D.int):=λh=>h.elim (λh=>.inl (f8 h F.symm)) (λh=>.inr (f8 h F.symm));have t:∀{f:Sto}{u:Ob},Kp [] st f->Kp [] st (c9 f p u):=λK b o nb e=>f8 (K b o nb e) (j9 e C);rfl';refine⟨_,U3,?_⟩;refine A0 (λl env f=>∃(x:List Int)(g:List Int)(A w k:Option D),l=x.map D.int/\env=[AA (.ref a),AA (.ref p),A,w,k]/\f p=AA (.lst (g.map D.int))/\g.length+60*x.length<=60*63/\rdS f s (E.map D.int)/\rdS f a (ns.map D.int)/\Kp [] st f) ?_ ?_ _ _ _ ⟨E,[],_,_,_,rfl,rfl,i7 f6 H,by simp;lia,U3,N.elim (λh=>.inl (i7 h H)) (λh=>.inr (i7 h H)),(Kp.refl.new C).new H⟩
 ·rintro env f ⟨x,g,A,w,k,el,rfl,hd,hb,hrs,hra,K⟩;refine⟨hrs,?_⟩;∎;rw[z0 (.inl hd)];rfl';simp only[AT];refine⟨⋯,?_⟩;refine A0 (λl env f=>∃(g:List Int)(A w k:Option D),(∀d∈l,∃i:Int,d=.int i/\0<=i)/\env=[AA (.ref a),AA (.ref p),A,w,k]/\f p=AA (.lst (g.map D.int))/\g.length+l.length<=10000/\rdS f a (ns.map D.int)/\Kp [] st f) ?_ ?_ _ _ _ ⟨g,_,_,_,λd hd=>by simp only[z7,Aq]at hd;obtain⟨i,_,rfl⟩:=hd;exact⟨_,rfl,⋯⟩,rfl,hd,by rw[an9];lia,hra,K⟩
  ·rintro env f ⟨g,A,w,k,el,rfl,hd,hb,hra,K⟩;∎;rw[bq1 (.inl hd)];intro r U;obtain⟨S,Z,_⟩:=a98 (ns:=g) (lo:=AD) (hi:=AA 200);rw[Z];exact f7 (q r _ ⟨S,f6⟩ (K.new U))
  ·rintro d ds env f ih ⟨g,A,w,k,el,rfl,hd,hb,hra,K⟩;obtain⟨i,rfl,X⟩:=el d ∎;simp only[AW]at hb;refine⟨trivial,?_⟩;have L:∀m:Int,l5 (Zg P G n) (match L0.body.drop 2 with|.cons (.for _ _ b) _=>b.drop 2|_=>.nil) ⟨A7 (λ_=>True) (.n 4) (l5 (Zg P G n) (match L0.body.drop 2 with|.cons (.for _ _ b) _=>b|_=>.nil)) ⟨l5 (Zg P G n) (L0.body.drop 3) (o5 Q),(o5 Q).rt,(o5 Q).bk,(o5 Q).ct⟩ ds,(o5 Q).rt,l5 (Zg P G n) (L0.body.drop 3) (o5 Q),A7 (λ_=>True) (.n 4) (l5 (Zg P G n) (match L0.body.drop 2 with|.cons (.for _ _ b) _=>b|_=>.nil)) ⟨l5 (Zg P G n) (L0.body.drop 3) (o5 Q),(o5 Q).rt,(o5 Q).bk,(o5 Q).ct⟩ ds⟩ [AA (.ref a),AA (.ref p),AA (.int m),w,AA (.int i)] f:=by
    intro m;simp only[L0,Ss.drop];∎;refine⟨T3 ⟨∅,∅⟩,ah6 ⟨∅,∅⟩,∅,?_⟩;∎;have e0:∀z:Int,0<=z % 2147483629/\z % 2147483629<2147483629:=λz=>⟨HC _ ∅,GA _ ∅⟩;refine⟨⟨∅,∅⟩,ah6 (by have:=e0 (m*48271+7919*i+13);lia),ah6 ⟨∅,∅⟩,∅,?_⟩;∎;rw[u0 (.inl hd)];refine⟨trivial,T3 ⟨∅,∅⟩,⟨∅,∅⟩,∅,?_⟩;rw[C6 hd];refine⟨C4 (by simp only[AT];lia),?_⟩;refine ih _ _ ⟨g++[_],_,_,_,λd hd=>el d (by simp[hd]),rfl,by rw[f6,Ae];rfl,by simp only[Ac,AW,BK];lia,v hra,t K⟩
   rfl';∎;refine⟨ah6 ⟨∅,∅⟩,?_⟩;∎;rw[z0 hra];rfl'
   by_cases y:(0:Int)<((ns.map D.int).length:Int)
   ·simp only[y,if_true];∎;rw[z0 hra];rfl';simp only[AT]at y ⊢;have J:(if(ns.length:Int)<63 then(ns.length:Int)else 63)=(ns.length:Int):=by split<;>lia
    rw[J];refine⟨y,?_⟩;rw[n8 hra];obtain⟨j,W⟩:=Int.eq_ofNat_of_zero_le (HC i (show(ns.length:Int)≠0 by lia));have M:j<ns.length:=by have:=GA i y;lia
    rw[W];refine⟨.int ns[j],by rw[E1,Aj,AM M];rfl,?_⟩;rfl';exact⟨∅,L _⟩
   ·simp only[y,if_false];rfl';exact L _
 ·rintro d ds env f ih ⟨x,g,A,w,k,el,rfl,hd,hb,hrs,hra,K⟩;refine⟨hrs,?_⟩;cases x with
  |nil=>simp at el
  |cons j x=>
   simp only[AZ,AY]at el;obtain⟨rfl,rfl⟩:=el;simp only[AW]at hb;rfl';∎;refine⟨⟨∅,∅,∅⟩,?_⟩;refine⟨T3 (by split<;>decide),?_⟩;generalize j*_=m;∎;refine⟨∅,?_⟩;refine A0 (λl env f=>∃(g:List Int)(c:Int)(k:Option D),env=[AA (.ref a),AA (.ref p),AA (.int j),AA (.int c),k]/\f p=AA (.lst (g.map D.int))/\g.length+l.length+60*x.length<=60*63/\rdS f s (E.map D.int)/\rdS f a (ns.map D.int)/\Kp [] st f) ?_ ?_ _ _ _ ⟨g,m,_,rfl,hd,by rw[an9];have:JY 60=60:=rfl;lia,hrs,hra,K⟩
   ·rintro env f ⟨g,c,k,rfl,hd,hb,hrs,hra,K⟩;refine⟨trivial,?_⟩;rfl';exact ih _ _ ⟨x,g,_,_,_,rfl,rfl,hd,by simpa using hb,hrs,hra,K⟩
   ·rintro d' ds' env f ih2 ⟨g,c,k,rfl,hd,hb,hrs,hra,K⟩;refine⟨trivial,?_⟩;simp only[AW]at hb;rfl';∎
    by_cases y:0<c
    ·simp only[y,if_true];∎;rw[u0 (.inl hd)];refine⟨trivial,∅,?_⟩;rw[C6 hd];refine⟨C4 (by simp only[AT];lia),?_⟩;∎;refine⟨⟨∅,∅⟩,ih2 _ _ ⟨g++[_],_,_,rfl,by rw[f6,Ae];rfl,by simp only[Ac,AW,BK];lia,B hrs,v hra,t K⟩⟩
    ·simp only[y,if_false];rfl';exact ih2 _ _ ⟨g,_,_,rfl,hd,⋯,hrs,hra,K⟩
abbrev O1(xs ys:List D):List D:=xs.flatMap λx=>ys.map λy=>.tup [x,y]
omit T in
theorem a86:(O1 xs ys).length=xs.length*ys.length:=J3 _ _ (λx=>∎) _
def af7{j:AH}(k:st j=AA (.lst xs))(v:st sa=AA (.lst ys))(hz:xs.length*ys.length<=1000000)(r:ys.length<=1000000)(q:∀a c,st a=AD->c a=AA (.lst (O1 xs ys))->Kp [] st c->Q (.ref a) c):sem P G (n+1) "_law_crossed" [.ref j,.ref sa] st Q:=by
 refine i5 T.crossed rfl [AA (.ref j),AA (.ref sa),AD,AD] rfl ?_;intro m g;∎;refine⟨_,.inl (i7 k g),?_⟩;refine A0 (λl env c=>∃(f:List D)(x:Option D),xs=f++l/\env=[AA (.ref j),AA (.ref sa),AA (.ref m),x]/\c m=AA (.lst (O1 f ys))/\Kp [] st c) ?_ ?_ _ _ _ ⟨[],AD,rfl,rfl,f6,Kp.refl.new g⟩
 ·rintro env c ⟨f,x,e,rfl,hs,K⟩;refine⟨.inl (K.at' k ∎),?_⟩;∎;rw[Ao]at e;subst e;exact f7 (q m c g hs K)
 ·rintro d ds env c ih ⟨f,x,e,rfl,hs,K⟩;refine⟨.inl (K.at' k ∎),?_⟩;rfl';∎;rw[u0 (.inl hs)];have i:=K.at' v ∎;refine⟨trivial,ys,.inl i,r,?_⟩;refine G0 (λy=>.tup [d,y]) (λenv=>∃x,env=[AA d,x]) (λenv y h=>by obtain⟨x,rfl⟩:=h;exact⟨_,rfl⟩) (λenv K h=>h) (λenv y K h hk=>by
   obtain⟨x,rfl⟩:=h;rfl';exact hk) (.inl i) _ _ _ ⟨AD,rfl⟩ ?_
  intro p o;rw[ad5 (i7 hs o) f6];have s:f.length*ys.length+ys.length<=1000000:=by
   have:xs.length=f.length+(ds.length+1):=by rw[e];simp
   have t:(f.length+1)*ys.length<=xs.length*ys.length:=CQ _ ⋯;rw[EU,Er]at t;lia
  refine⟨p9 (by rw[a86];simp only[BH,AT];lia),?_⟩;rfl';refine ih _ _ ⟨f++[d],_,by rw[e];simp,rfl,by rw[f6];unfold O1;rw[Fy];simp,λb u nb eb=>f8 (i7 (K b u nb eb) o) (j9 eb g)⟩
omit T in
theorem a62{rs:List (List D)}:(O1 (rs.map D.tup) ys)=(rs.flatMap λr=>ys.map λy=>(r,y)).map λp=>.tup [.tup p.1,p.2]:=by
 unfold O1;rw[EM,CA];simp[BN,Bp]
omit T in
theorem ap5{chk:Sto->Prop}{tc:DB}{te:DT}{R:List D->Sto->Prop}(htc:∀env K,K AC st->tc env st K)(hte:∀(r:List D)(y:D)K,r.length<=1000->K (.tup (r++[y])) st->te [AA (.tup r),AA y] st K)(hc:chk st):∀(ps:List (List D×D))(acc:List D)(x y:Option D),(∀p∈ps,p.1.length<=1000)->R (acc++ps.map λp=>.tup (p.1++[p.2])) st->B1 chk (.tup [0,1]) tc te R (ps.map λp=>.tup [.tup p.1,p.2]) acc [x,y] st
 |[],acc,x,y,_,hR=>by rw[CG,V8];exact⟨hc,by simpa using hR⟩
 |(r,c)::ps,acc,x,y,hl,hR=>by
  rw[AZ,R8,bk8];refine⟨hc,rfl,?_⟩;simp only[az5,a64,List.set_cons_zero,List.set_cons_succ];refine htc _ _ ?_;rw[if_pos rfl];exact hte r c _ (hl (r,c) ∎) (ap5 htc hte hc ps _ _ _ (λp hp=>hl p (by simp[hp])) (by simpa using hR))
def ag6:∀(k:Kd){n:Nat}{st:Sto}{Q:DK},k.nest+2<=n->k.bd 100->(∀a f,st a=AD->f a=AA (.lst k.things)->Kp [] st f->Q (.ref a) f)->sem P G n "_law_things" [k.d] st Q:=by
 intro k
 induction k with
 |non=>
  intro n st Q E _ q;obtain⟨n,rfl⟩:∃k,n=k+1:=⟨n-1,⋯⟩;refine i5 T.lthings rfl [AA Kd.non.d,AD,AD,AD,AD] rfl ?_;unfold R4;simp only[Kd.d];(iterate 2 ∎);exact λp w=>f7 (q p _ w f6 (Kp.refl.new w))
 |one=>
  intro n st Q E _ q;obtain⟨n,rfl⟩:∃k,n=k+1:=⟨n-1,⋯⟩;refine i5 T.lthings rfl [AA Kd.one.d,AD,AD,AD,AD] rfl ?_;unfold R4;simp only[Kd.d];(iterate 3 ∎);exact λp w=>f7 (q p _ w f6 (Kp.refl.new w))
 |eith a b v s=>
  intro n st Q E m q;obtain⟨n,rfl⟩:∃k,n=k+1:=⟨n-1,⋯⟩;simp only[Kd.nest]at E;have I:=o7 a;have C:=o7 b;have ba:=Kd.bd_le m.1;have V:=Kd.bd_le m.2.1;refine i5 T.lthings rfl [AA (Kd.eith a b).d,AD,AD,AD,AD] rfl ?_;unfold R4;simp only[Kd.d];(iterate 3 ∎);refine⟨by rw[T.lthings];rfl,v ⋯ m.1 λfa st1 hf0 hf K1=>?_⟩;∎;refine⟨by rw[T.lthings];rfl,s ⋯ m.2.1 λsa st2 hs0 hsa K2=>?_⟩;have j:=K2.at' hf ∎;(iterate 2 ∎);refine⟨_,.inl j,⋯,?_⟩;refine G0 (λt=>.tup [.str "l",t]) (λenv=>∃x,env=[x]) (λenv y h=>by obtain⟨x,rfl⟩:=h;exact⟨_,rfl⟩) (λenv K h=>h) (λenv y K h hk=>by
   obtain⟨x,rfl⟩:=h;rfl';exact hk) (.inl j) _ _ _ ⟨AD,rfl⟩ ?_
  intro p w;have B:=i7 (u:=.lst ([]++a.things.map λt=>D.tup [.str "l",t])) hsa w;refine⟨_,.inl B,⋯,?_⟩;refine G0 (λt=>.tup [.str "r",t]) (λenv=>∃x,env=[x]) (λenv y h=>by obtain⟨x,rfl⟩:=h;exact⟨_,rfl⟩) (λenv K h=>h) (λenv y K h hk=>by
   obtain⟨x,rfl⟩:=h;rfl';exact hk) (.inl B) _ _ _ ⟨AD,rfl⟩ ?_
  intro p2 g;rw[bl1];have L:=(K1.trans K2).new (o:=.lst ([]++a.things.map λt=>D.tup [.str "l",t])) w;refine⟨_,_,i7 f6 g,f6,p9 (by simp only[BH,AT];lia),λp3 hp3=>f7 (q p3 _ (none_of (L.new g) hp3) ?_ ((L.new g).new hp3))⟩;rw[f6];rfl
 |both a b v s=>
  intro n st Q E m q;obtain⟨n,rfl⟩:∃k,n=k+2:=⟨n-2,⋯⟩;simp only[Kd.nest]at E;have I:=o7 a;have C:=o7 b;have ba:=Kd.bd_le m.1;have V:=Kd.bd_le m.2.1;have bw:a.cnt*b.cnt<=100:=m.2.2;refine i5 T.lthings rfl [AA (Kd.both a b).d,AD,AD,AD,AD] rfl ?_;unfold R4;simp only[Kd.d];(iterate 3 ∎);refine⟨by rw[T.lthings];rfl,v ⋯ m.1 λfa st1 hf0 hf K1=>?_⟩;∎;refine⟨by rw[T.lthings];rfl,s ⋯ m.2.1 λsa st2 hs0 hsa K2=>?_⟩;have j:=K2.at' hf ∎;have z:=K1.trans K2;(iterate 3 ∎);refine⟨by rw[T.crossed];rfl,af7 T j hsa (by rw[I,C];lia) ⋯ λp st3 w hs2 K3=>?_⟩;rfl';refine⟨_,.inl hs2,by rw[a86,I,C];lia,?_⟩;refine F9 (λl acc env' f=>f=st3/\∃(A:List (D×D))(M:List D)(x:Option D),env'=[x]/\l=A.map (λp=>.tup [p.1,p.2])/\acc=M/\M++A.map (λp=>.tup [.str "p",p.1,p.2])=(Kd.both a b).things) ?_ ?_ _ _ _ _ ⟨rfl,a.things.flatMap (λx=>b.things.map λy=>(x,y)),[],AD,rfl,?_,rfl,?_⟩
  ·rintro acc env' f ⟨rfl,A,M,x,rfl,el,rfl,e⟩;have:A=[]:=by simpa using el.symm
   subst this;refine⟨.inl hs2,λp2 g=>f7 (q p2 _ (none_of (z.trans K3) g) ?_ ((z.trans K3).new g))⟩;rw[f6];simp at e;rw[e]
  ·rintro d ds acc env' f ih ⟨rfl,A,M,x,rfl,el,rfl,e⟩;refine⟨.inl hs2,?_⟩;cases A with
   |nil=>simp at el
   |cons pr A=>
    simp only[AZ,AY]at el;obtain⟨rfl,rfl⟩:=el;rfl';refine⟨p9 ∅,ih _ _ _ ⟨rfl,A,_,_,rfl,rfl,rfl,?_⟩⟩;rw[<-e];simp
  ·unfold O1;rw[CA];simp[BN,Bp]
  ·rw[CA];simp[BN,Bp,Kd.things]
 |way a b v s=>
  intro n st Q E m q;obtain⟨n,rfl⟩:∃k,n=k+2:=⟨n-2,⋯⟩;simp only[Kd.nest]at E;have I:=o7 a;have C:=o7 b;have ba:=Kd.bd_le m.1;have V:=Kd.bd_le m.2.1;have bw:b.cnt^a.cnt<=100:=m.2.2;refine i5 T.lthings rfl [AA (Kd.way a b).d,AD,AD,AD,AD] rfl ?_;unfold R4;simp only[Kd.d];(iterate 3 ∎);refine⟨by rw[T.lthings];rfl,v ⋯ m.1 λfa st1 hf0 hf K1=>?_⟩;∎;refine⟨by rw[T.lthings];rfl,s ⋯ m.2.1 λsa st2 hs0 hsa K2=>?_⟩;have j:=K2.at' hf ∎;have z:=K1.trans K2;(iterate 3 ∎);intro F J;∎;refine⟨_,.inl (i7 j J),?_⟩;refine A0 (λl env f=>∃(i:Nat)(F:AH)(x:Option D),i+l.length=a.things.length/\env=[AA (.tup [.str "way",a.d,b.d]),AA (.ref fa),AA (.ref sa),AA (.ref F),x]/\f F=AA (.lst ((t6 i b.things).map D.tup))/\Kp [] st2 f) ?_ ?_ _ _ _ ⟨0,F,AD,∎,rfl,f6,Kp.refl.new J⟩
  ·rintro env f ⟨i,F,x,hi,rfl,hs,K⟩;refine⟨.inl (K.at' j ∎),?_⟩;∎;simp only[BK,JZ]at hi;subst hi;refine⟨_,.inl hs,by rw[AT,S5,I,C];lia,?_⟩;refine G0 (λr=>.tup [.str "w",r]) (λenv=>∃x,env=[x]) (λenv y h=>by obtain⟨x,rfl⟩:=h;exact⟨_,rfl⟩) (λenv K h=>h) (λenv y K h hk=>by
    obtain⟨x,rfl⟩:=h;rfl';exact hk) (.inl hs) _ _ _ ⟨AD,rfl⟩ ?_
   intro p2 g;have L:=z.trans K;refine f7 (q p2 _ (none_of L g) ?_ (L.new g));rw[f6,BH,BN];rfl
  ·rintro d ds env f ih ⟨i,F,x,hi,rfl,hs,K⟩;refine⟨.inl (K.at' j ∎),?_⟩;simp only[AW]at hi;have b1:=af4 (c:=b.cnt) (i:=i+1) (n:=a.cnt) ⋯;have b0:=af4 (c:=b.cnt) (i:=i) (n:=a.cnt) ⋯;rw[Fx]at b1;rfl';∎;refine⟨by rw[T.crossed];rfl,af7 T hs (K.at' hsa ∎) (by rw[AT,S5,C];lia) ⋯ λp st3 w hs2 K3=>?_⟩;rfl';rw[a62]at hs2;refine⟨_,.inl hs2,by rw[AT,J3 _ b.things.length (λx=>∎),S5,C];lia,?_⟩;refine ap5 (λenv K h=>h) (λr y K O hk=>?_) (.inl hs2) _ _ _ _ ?_ ?_
   ·rfl';exact⟨p9 ⋯,hk⟩
   ·intro pr N;obtain⟨r,O,h2⟩:=Be.mp N;obtain⟨y,_,rfl⟩:=Aq.mp h2;have:=(F8 _ _ _ O).1;show r.length<=1000;lia
   ·intro p2 g;rfl';refine ih _ _ ⟨i+1,p2,_,⋯,rfl,?_,(K.trans K3).new g⟩;rw[f6,BH,t6,CA,CA];simp[BN,Bp]
end
abbrev l7:List Kd->List (List D)
 |[]=>[[]]
 |k::r=>k.things.flatMap λt=>(l7 r).map (t::·)
abbrev lns:List Kd->Nat
 |[]=>1
 |k::r=>k.cnt*lns r
theorem R7:∀ks,(l7 ks).length=lns ks
 |[]=>rfl
 |k::r=>by rw[l7,J3 _ (lns r) λt=>by rw[AT,R7 r],o7,lns]
theorem ap3:∀ks(k),l7 (ks++[k])=(l7 ks).flatMap λr=>k.things.map λt=>r++[t]
 |[],k=>by simp[l7];induction k.things<;>simp[*]
 |j::ks,k=>by
  rw[BB,l7,ap3 ks k,l7,Fm]
  congr 1;funext t
  rw[CA,EM]
  congr 1;funext r
  rw[BN];rfl
theorem af5:∀(ks:List Kd)(k:Kd),lns (ks++[k])=lns ks*k.cnt
 |[],k=>by simp[lns]
 |j::ks,k=>by rw[BB,lns,af5 ks k,lns,GH]
def V7{k:Kd}{l:List D}(h:l∈l7 (k::r)):∃t a,l=t::a/\t∈k.things/\a∈l7 r:=by
 simp only[l7,Be,Aq]at h;obtain⟨t,c,a,b,rfl⟩:=h;exact⟨t,a,rfl,c,b⟩
abbrev jnB:List D->List D
 |t::u::l=>.tup [.str "p",t,u]::l
 |l=>l
def bv8:l7 (.both a b::r)=(l7 (a::b::r)).map jnB:=by
 simp only[l7,Kd.things];rw[Fm,CA]
 congr 1;funext t
 rw[EM,BN,CA]
 congr 1;funext u
 rw[BN];rfl
abbrev jnW(n:Nat)(l:List D):List D:=.tup [.str "w",.tup (l.take n)]::l.drop n
def bv6:∀n,l7 (BP n b++r)=(t6 n b.things).flatMap λrow=>(l7 r).map (row++·):=by
 have f:∀(n:Nat)(e:List Kd),l7 (BP n b++e)=(l7 (BP n b)).flatMap λrow=>(l7 e).map (row++·):=by
  intro n e
  induction n with
  |zero=>simp[l7]
  |succ n g=>
   rw[FW,BB,l7,g,l7,Fm]
   congr 1;funext t
   rw[CA,EM]
   congr 1;funext row
   rw[BN];rfl
 have d:∀n,l7 (BP n b)=t6 n b.things:=by
  intro n
  induction n with
  |zero=>rfl
  |succ n g=>rw[List.replicate_succ',ap3,g,t6]
 intro n;rw[f,d]
theorem a04{a b:Type}{f g:a->List b}:∀{l:List a},(∀x∈l,f x=g x)->l.flatMap f=l.flatMap g
 |[],_=>rfl
 |x::l,h=>by rw[CN,CN,h x ∎,a04 λy hy=>h y (by simp[hy])]
def a85:l7 (.way a b::r)=(l7 (BP a.things.length b++r)).map (jnW a.things.length):=by
 rw[bv6,l7,Kd.things,EM,CA];refine a04 λrow hr=>?_;have hl:=(F8 _ _ _ hr).1;simp[jnW,<-hl]
abbrev lfD(s:String):List D->List D
 |t::l=>.tup [.str s,t]::l
 |[]=>[]
def bw1:l7 (.eith a b::r)=(l7 (a::r)).map (lfD "l")++(l7 (b::r)).map (lfD "r"):=by
 simp only[l7,Kd.things];rw[Fy,EM,EM,CA,CA]
 congr 1
 ·congr 1;funext t;rw[BN];rfl
 ·congr 1;funext t;rw[BN];rfl
abbrev flt{α:Type}(sg:String):List (String×D)->List α->List α
 |(s,_)::r,x::xs=>if s=sg then x::flt sg r xs else flt sg r xs
 |_,_=>[]
theorem V1:∀{ks}{l},l∈l7 ks->l.length=ks.length
 |[],l,h=>by simp[l7]at h;subst h;rfl
 |k::r,l,h=>by
  obtain⟨t,l',rfl,_,h'⟩:=V7 h;rw[AW,AW,V1 h']
def ab2{gs:List D}:rks (gs.map (λp=>(⟨lv,ls++[.giv p],b⟩:Ask)))=gs.length*b.rk:=by
 induction gs with
 |nil=>simp[rks]
 |cons p l ih=>rw[AZ,l0,ih,AW,EU,Er,II]
abbrev nA:List Kd->List Ask
 |[]=>[]
 |k::r=>⟨r.length,[],k⟩::nA r
theorem ai7:∀Γ:List Kd,(nA Γ).map (·.k)=Γ
 |[]=>rfl
 |k::r=>by rw[nA,AZ,ai7 r]
theorem W6:∀{Γ}{q},q∈nA Γ->q.k∈Γ/\q.ls=[]/\q.lv<Γ.length
 |[],q,h=>by cases h
 |k::r,q,h=>by
  rcases AK.mp h with rfl|h
  ·simp_all
  ·obtain⟨a,b,c⟩:=W6 h;exact⟨by simp[a],b,by simp;lia⟩
theorem au6{b}:∀{Γ},(∀k∈Γ,k.rk<=b)->rks (nA Γ)<=Γ.length*b
 |[],_=>by simp[nA,rks]
 |k::r,h=>by
  have:=au6 (Γ:=r) λk hk=>h k (by simp[hk]);have:=h k ∎;rw[nA,l0,AW,EU,Er];lia
section
variable (T:PKs P G)
include T
def bb8(N:8<=n)(O:Γ.length<=3)(p:∀k∈Γ,Lv 2 k/\k.bd 12)(v:∀i,lns (Γ.take i)<=12)(q:∀a c,st a=AD->c a=AA (.lst ((l7 Γ).map D.tup))->Kp [] st c->Q (.ref a) c):sem P G n "_law_rows" [.tup (Γ.map Kd.d)] st Q:=by
 obtain⟨n,rfl⟩:∃m,n=m+2:=⟨n-2,⋯⟩;refine i5 T.lrows rfl [AA (.tup (Γ.map Kd.d)),AD,AD] rfl ?_;intro f g;∎;refine A0 (λl env c=>∃(b r:List Kd)(f:AH)(x:Option D),Γ=b++r/\l=r.map Kd.d/\env=[AA (.tup (Γ.map Kd.d)),AA (.ref f),x]/\st f=AD/\c f=AA (.lst ((l7 b).map D.tup))/\Kp [] st c) ?_ ?_ _ _ _ ⟨[],Γ,f,AD,rfl,rfl,rfl,g,f6,Kp.refl.new g⟩
 ·rintro env c ⟨b,r,f,x,e,el,rfl,h0,hs,K⟩;have:r=[]:=by simpa using el.symm
  subst this;rw[Ao]at e;subst e;∎;exact f7 (q f c h0 hs K)
 ·rintro d ds env c ih ⟨b,r,f,x,e,el,rfl,h0,hs,K⟩;refine⟨trivial,?_⟩;cases r with
  |nil=>simp at el
  |cons k r=>
   simp only[AZ,AY]at el;obtain⟨rfl,rfl⟩:=el;obtain⟨F,z⟩:=p k (by rw[e];simp);have M:=F.nest;have t:=o7 k;have R:=Kd.bd_le z;have I:=v (b.length+1);rw[e,show(b++k::r).take (b.length+1)=b++[k] by rw[List.take_append,CZ ⋯];simp,af5]at I;have J:=v b.length;rw[e,List.take_left]at J;have s:=R7 b;rfl';∎;refine⟨by rw[T.crossed];rfl,by rw[T.lthings];rfl,ag6 T k ⋯ (Kd.bd_mono ∅ z) λta st1 hta0 hta K1=>?_⟩;rfl';refine af7 T (K1.at' hs ∎) hta (by rw[AT,s,t];lia) ⋯ λp st3 hp hs2 K3=>?_;rfl';rw[a62]at hs2;refine⟨_,.inl hs2,by rw[AT,J3 _ k.things.length (λx=>∎),s,t];lia,?_⟩;refine ap5 (λenv K h=>h) (λr y K u p=>?_) (.inl hs2) _ _ _ _ ?_ ?_
   ·rfl';exact⟨p9 ⋯,p⟩
   ·intro L o;obtain⟨B,u,H⟩:=Be.mp o;obtain⟨y,_,rfl⟩:=Aq.mp H;have:=V1 u;have:Γ.length=b.length+(r.length+1):=by rw[e];simp
    show B.length<=1000;lia
   ·intro C j;have A:=(K.trans K1).trans K3;refine ih _ _ ⟨b++[k],r,C,_,by rw[e];simp,rfl,rfl,none_of A j,?_,A.new j⟩;rw[f6,BH,ap3,CA,CA];simp[BN,Bp]
def bz2{most:Nat}(p:2<=most)(o:most<=20)(t:12<=n)(I:D8 st da)(q:∀(Γ:List Kd)a,Γ.length<=3->(∀k∈Γ,Lv 2 k/\k.bd most)->(∀i,lns (Γ.take i)<=most)->D8 a da->Kp [da] st a->Q (.tup (Γ.map Kd.d)) a):sem P G n "_law_names" [.ref da,.int most] st Q:=by
 obtain⟨n,rfl⟩:∃m,n=m+1:=⟨n-1,⋯⟩;obtain⟨n,rfl⟩:∃m,n=m+1:=⟨n-1,⋯⟩;refine i5 T.names rfl [AA (.ref da),AA (.int most),AD,AD,AD,AD] rfl ?_;(iterate 3 ∎);refine⟨by rw[T.next];rfl,ab1 T ∅ I λm st1 m0 m1 I1 K1=>?_⟩;rfl';refine⟨⋯,?_⟩;refine A0 (λl env a=>∃(Γ:List Kd)(j g:Option D),Γ.length+l.length<=3/\(∀k∈Γ,Lv 2 k/\k.bd most)/\(∀i,lns (Γ.take i)<=most)/\env=[AA (.ref da),AA (.int most),AA (.tup (Γ.map Kd.d)),AA (.int (lns Γ)),j,g]/\D8 a da/\Kp [da] st a) ?_ ?_ _ _ _ ⟨[],AD,AD,by rw[an9];simp only[BK];lia,∎,λi=>by simp[lns];lia,rfl,I1,K1⟩
 ·rintro env a ⟨Γ,j,g,hl,hk,hb,rfl,I2,K2⟩;∎;exact f7 (q Γ a (by simpa using hl) hk hb I2 K2)
 ·rintro d ds env a ih ⟨Γ,j,g,hl,hk,hb,rfl,I2,K2⟩;refine⟨trivial,?_⟩;have s:lns Γ<=most:=by have:=hb Γ.length;rwa [Eo]at this
  simp only[AW]at hl;rfl';∎;refine⟨by rw[T.kind];rfl,ba3 T (most:=most) p o 2 ⋯ I2 λk st3 lk bk I3 K3=>?_⟩;have r:=lk.nest;have u:=Kd.bd_le bk;have b:=Q3 bk;∎;refine⟨by rw[T.many];rfl,ag4 T (m:=most) ⋯ k ⋯ b ?_⟩;rfl';refine⟨T3 ⟨⋯,⋯⟩,?_⟩;rw[<-HD]
  by_cases f:((lns Γ*k.cnt:Nat):Int)<=most
  ·simp only[f,if_true];∎;refine⟨p9 (by simp only[AT];lia),?_⟩;∎;refine⟨by rw[T.many];rfl,ag4 T (m:=most) ⋯ k ⋯ b ?_⟩;rfl';refine⟨T3 ⟨⋯,⋯⟩,ih _ _ ⟨Γ++[k],AA d,AA k.d,by simp;lia,λc e=>?_,λi=>?_,?_,I3,K2.trans K3⟩⟩
   ·rcases Ap.mp e with e|e
    ·exact hk c e
    ·rw[Am]at e;subst e;exact⟨lk,bk⟩
   ·rcases Nat.lt_or_ge Γ.length i with h|h
    ·rw[CZ (by simp;lia),af5];lia
    ·rw[List.take_append_of_le_length h];exact hb i
   ·rw[Ae,af5,HD];rfl
  ·simp only[f,if_false];rfl';exact ih _ _ ⟨Γ,_,_,⋯,hk,hb,rfl,I3,K2.trans K3⟩
end
abbrev B5(q:Ask):D:=.tup [.int q.lv,.tup (q.ls.map Lk.d),q.k.d]
abbrev chD:List Ask->D
 |[]=>.non
 |q::r=>.tup [B5 q,chD r]
def bw4:∀(n:Nat){u:List Ask},rks u<=n->∀{q:Ask}{v:List Ask}{g:Kd}{dp:Nat}{ps j:List D}{x:D},q.k.mute=AC->Tr g dp (u++q::v) ps x j->Tr g dp (u++v) ps x j:=by
 intro n
 induction n with
 |zero=>
  intro u e q v g dp ps j x c t;cases u with
  |nil=>exact J6 q.k c t
  |cons h u=>rw[l0]at e;have:=G3 h.k;lia
 |succ n f=>
  intro u e q v g dp ps j x c t;cases u with
  |nil=>exact J6 q.k c t
  |cons h u=>
   rw[l0]at e;have C:=G3 h.k;rw[BB]at t ⊢;cases t with
   |mute B t=>exact .mute B (f ⋯ c t)
   |non=>exact .non
   |@eith _ a b _ l m _ _ _ _ _ _ d z=>
    simp only[Kd.rk]at e;exact .eith (f (u:=⟨dp,[],a⟩::u) (by rw[l0];simp only;lia) c d) (f (u:=⟨dp,[],b⟩::u) (by rw[l0];simp only;lia) c z)
   |@both _ a b _ l m _ _ _ _ d=>
    simp only[Kd.rk]at e;exact .both (f (u:=⟨l,m++[.fst],a⟩::⟨l,m++[.snd],b⟩::u) (by rw[l0,l0];simp only;lia) c d)
   |@way _ a b _ l m _ E _ _ _ y d=>
    simp only[Kd.rk]at e;have w:=y.len;rw[o7]at w;refine .way y ?_;rw[<-BV]at d ⊢;refine f (by rw[P9,ab2,<-w];lia) c d
abbrev C3(qs:List Ask):List Ask:=qs.filter λq=>!q.k.mute
def au4(h:q.k.mute=AC):C3 (q::qs)=C3 qs:=by simp[C3,Hh,h]
def ct8(h:q.k.mute=AF):C3 (q::qs)=q::C3 qs:=by simp[C3,Hh,h]
theorem ag9:∀{qs u r}{g}{dp}{ps a}{x},Tr g dp (u++(qs++r)) ps x a->Tr g dp (u++(C3 qs++r)) ps x a
 |[],u,r,_,_,_,_,_,t=>t
 |q::qs,u,r,g,dp,ps,a,x,t=>by
  unfold C3;rw[Hh];cases hm:q.k.mute with
  |true=>
   exact ag9 (bw4 _ (Ab _) hm t)
  |false=>
   have:=ag9 (u:=u++[q]) (by rwa[BV]);rwa[BV]at this
theorem aq5:∀qs:List Ask,rks (C3 qs)<=rks qs
 |[]=>Ab _
 |q::qs=>by
  have ih:=aq5 qs;unfold C3 at ih ⊢;rw[Hh]
  split
  ·rw[l0,l0];lia
  ·rw[l0];lia
def bb9(h:q∈C3 qs):q∈qs:=(mem_filter.mp h).1
structure AskOk(m dp:Nat)(q:Ask):Prop where
 lv:q.lv<dp
 bd:q.k.bd 20
 ns:Lv m q.k
 ll:q.ls.length+q.k.nest<=9
abbrev PlT(P:i9)(G:Gs)(n:Nat)(c:Kd):Prop:=∀t p,t∈c.things->Pl c t p->∀m,n<=m->∀st(Q:DK),(∀st',Kp [] st st'->Q p st')->sem P G m "plain_thing" [c.d,t] st Q
def bt8{k:Kd}(h:k.nest<=9):k.size<=2000:=by
 have:=aq0 k;have:2^(k.nest+1)<=2^10:=BX ∅ ⋯;lia
section
variable (T:PKs P G)
include T
def cb9{h:Kd}(f:h.subs=[a,b])(q:Q (.tup [.bl (!h.mute),.bl (AE (0<h.cnt))]) st):sem P G (n+1) "joined_asking" [.str h.w,.tup [.bl (!a.mute),.bl (AE (0<a.cnt))],.tup [.bl (!b.mute),.bl (AE (0<b.cnt))]] st Q:=by
 refine i5 T.jask rfl [AA (.str h.w),AA (.tup [.bl (!a.mute),.bl (AE (0<a.cnt))]),AA (.tup [.bl (!b.mute),.bl (AE (0<b.cnt))])] rfl ?_;have c:∀x(y:Bool),x=(!h.mute)->(y=AC↔0<h.cnt)->(o5 Q).rt (.tup [.bl x,.bl y]) st:=by
  rintro _ y rfl hy;have:y=AE (0<h.cnt):=by
   cases y with
   |true=>exact(decide_eq_true (hy.mp rfl)).symm
   |false=>exact(decide_eq_false λz=>by cases hy.mpr z).symm
  rw[this];exact f7 q
 cases h with
 |non=>cases f
 |one=>cases f
 |eith s r=>
  cases f;simp only[Kd.w];(iterate 2 ∎);simp only[Kd.mute,Kd.cnt]at c
  split
  ·exact c _ _ rfl ⟨λ_=>⋯,λ_=>rfl⟩
  ·exact c _ _ rfl (by rw[decide_eq_true_eq];lia)
 |both s r=>
  cases f;simp only[Kd.w];(iterate 3 ∎);simp only[Kd.mute,Kd.cnt]at c;have o:0<a.cnt->(AE (0<b.cnt)=AC↔0<a.cnt*b.cnt):=λz=>by rw[decide_eq_true_eq];exact⟨λy=>Nat.mul_pos z y,λy=>Nat.pos_of_mul_pos_left y⟩
  have m:¬0<a.cnt->(AF=AC↔0<a.cnt*b.cnt):=λz=>by rw[show a.cnt=0 by lia,LZ];simp
  split
  ·rename_i e
   split
   ·rename_i d;exact c _ _ (by rw[e];rfl) (o d)
   ·rename_i d;exact c _ _ (by rw[e];rfl) (m d)
  ·rename_i e;rw[Bool.not_eq_false]at e
   split
   ·rename_i d;exact c _ _ (by rw[e];rfl) (o d)
   ·rename_i d;exact c _ _ (by rw[e];rfl) (m d)
 |way s r=>
  cases f;simp only[Kd.w];(iterate 3 ∎);simp only[Kd.mute,Kd.cnt]at c
  split
  ·rename_i i;have g:(!b.mute)=!(a.cnt==0||b.mute):=by rw[show(a.cnt==0)=AF by rw[beq_eq_false_iff_ne];lia];rfl
   split
   ·rename_i k;exact c _ _ g ⟨λ_=>LB k,λ_=>rfl⟩
   ·rename_i k;exact c _ _ g (by rw[show b.cnt=0 by lia,Km i,decide_eq_true i];simp)
  ·rename_i i;have j:a.cnt=0:=by lia
   have g:AF=!(a.cnt==0||b.mute):=by rw[j];rfl
   split
   ·exact c _ _ g (by rw[j,Ko];simp)
   ·exact c _ _ g (by rw[j,Ko];simp)
def bh3{k:Kd}{n:Nat}(f:6<=n)(e:k.nest<=9)(q:∀c,Kp [] st c->Q (.bl k.mute) c):sem P G n "asks_nothing" [k.d] st Q:=by
 obtain⟨n,rfl⟩:∃m,n=m+6:=⟨n-6,⋯⟩;refine i5 T.nothing rfl [AA k.d] rfl ?_;∎;refine⟨by rw[T.bu];rfl,λpd hpd=>⟨by rw[T.jask];rfl,?_⟩⟩;refine bc1 T.toPT0 (n:=n+2) (V:=λ_ k d _=>d=.tup [.bl (!k.mute),.bl (AE (0<k.cnt))]) (λv _=>v) k (bt8 e) ⋯ f6 (by rw[T.jask];rfl) (λdn c _ _=>rfl) (λdn c _ _=>rfl) (λh a b dn d1 d2 c Q hh KK hsub v1 v2 hdn q=>?_) λdn d c hdn v K=>?_
 ·subst v1;subst v2;exact cb9 T hsub (q _ _ rfl Kp.refl)
 ·subst v;rfl';rw[Bool.not_not];exact f7 (q c ((Kp.refl.new hpd).trans K))
def at4{l}{k}(hl:q.ls.length<=1000)(h:Q (B5 ⟨q.lv,q.ls++[l],k⟩) st):sem P G (n+1) "looked_at" [B5 q,l.d,k.d] st Q:=by
 refine i5 T.looked rfl [AA (B5 q),AA l.d,AA k.d] rfl ?_;unfold B5;∎;refine⟨p9 (by simp only[AT];lia),f7 ?_⟩;unfold B5 at h;rw[Ae]at h;exact h
def ch6(hlv:lv<dp)(h:Q (exD (dp-1-lv) ls) st):sem P G (n+1) "expression" [.int lv,.tup (ls.map Lk.d),.int dp] st Q:=by
 refine i5 T.expr rfl [AA (.int lv),AA (.tup (ls.map Lk.d)),AA (.int dp),AD,AD] rfl ?_;unfold ak9;(iterate 2 ∎);rw[show(dp:Int)-1-lv=((dp-1-lv:Nat):Int) by lia];refine A0 (λl env st'=>st'=st/\∃(pre suf:List Lk)(x:Option D),ls=pre++suf/\l=suf.map Lk.d/\env=[AA (.int lv),AA (.tup (ls.map Lk.d)),AA (.int dp),AA (exD (dp-1-lv) pre),x]) ?_ ?_ _ _ _ ⟨rfl,[],ls,AD,rfl,rfl,rfl⟩
 ·rintro env st' ⟨rfl,pre,suf,x,e,el,rfl⟩;refine⟨trivial,?_⟩;have:suf=[]:=by simpa using el.symm
  subst this;rw[Ao]at e;subst e;∎;exact f7 h
 ·rintro d ds env st' ih ⟨rfl,pre,suf,x,e,el,rfl⟩;refine⟨trivial,?_⟩;cases suf with
  |nil=>simp at el
  |cons l suf=>
   simp only[AZ,AY]at el;obtain⟨rfl,rfl⟩:=el;cases l with
   |fst=>
    simp only[Lk.d];rfl';∎;exact⟨by simp[HT.sIx],p9 (by simp[t5,HT.sIx]),ih _ _ ⟨rfl,pre++[.fst],suf,AA (Lk.d .fst),by rw[e];simp,rfl,by rw[L5];rfl⟩⟩
   |snd=>
    simp only[Lk.d];rfl';∎;exact⟨by simp[HT.sIx],p9 (by simp[t5,HT.sIx]),ih _ _ ⟨rfl,pre++[.snd],suf,AA (Lk.d .snd),by rw[e];simp,rfl,by rw[L5];rfl⟩⟩
   |giv p=>
    simp only[Lk.d];rfl';∎;exact⟨by simp[HT.sIx],p9 (by simp[t5,HT.sIx]),ih _ _ ⟨rfl,pre++[(.giv p)],suf,AA (Lk.d (.giv p)),by rw[e];simp,rfl,by rw[L5];rfl⟩⟩
def ag1{i h:Option D}{r:List Ask}(m:6<=n)(g:st pa=AA (.lst (qs.map B5)))(j:∀q∈qs,q.k.nest<=9)(q:∀b,Kp [] st b->Q (chD (C3 qs++r)) b):
  l5 (Zg P G n) (aa2.body.drop 4) (o5 Q) [i,AA (chD r),h,AA (.ref pa),AD] st:=by
 ∎;refine⟨_,.inl g,?_⟩;rw[<-Hg];refine A0 (λl env b=>∃(a f:List Ask)(x:Option D),qs=a++f/\l=a.reverse.map B5/\env=[i,AA (chD (C3 f++r)),h,AA (.ref pa),x]/\Kp [] st b) ?_ ?_ _ _ _ ⟨qs,[],AD,∎,rfl,rfl,Kp.refl⟩
 ·rintro env b ⟨a,f,x,e,el,rfl,K⟩;refine⟨.inl (K.at' g ∎),?_⟩;have:a=[]:=by simpa using el.symm
  subst this;subst e;∎;exact f7 (q b K)
 ·rintro d ds env b ih ⟨a,f,x,e,el,rfl,K⟩;refine⟨.inl (K.at' g ∎),?_⟩
  rcases V4 a with rfl|⟨a,c,rfl⟩
  ·simp at el
  rw[GB,CM,JJ,BH,Ae,AZ,CG,BB,BH]at el;simp only[AY]at el;obtain⟨rfl,rfl⟩:=el;rw[BV,BB,BH]at e;∎;rw[B5];rfl';refine⟨by rw[T.nothing];rfl,bh3 T m (j c (by rw[e];simp)) λst2 K2=>?_⟩;rfl';cases hm:c.k.mute with
  |true=>
   rfl';refine ih _ _ ⟨a,c::f,AA (B5 c),e,rfl,?_,K.trans K2⟩;rw[au4 hm];rfl
  |false=>
   rfl';∎;refine ih _ _ ⟨a,c::f,AA (B5 c),e,rfl,?_,K.trans K2⟩;rw[ct8 hm];rfl
end
abbrev vw(v c:Nat):Nat->Nat
 |0=>0
 |n+1=>v+c*vw v c n
abbrev Kd.vn:Kd->Nat
 |.non=>1|.one=>0
 |.eith a b=>a.vn+b.vn
 |.both a b=>a.vn+a.cnt*b.vn
 |.way a b=>vw b.vn b.cnt a.cnt
abbrev Nk:List Kd->Nat
 |[]=>1
 |k::r=>k.vn+k.cnt*Nk r
def bh4:Nk (.eith a b::r)=Nk (a::r)+Nk (b::r):=by
 simp only[Nk,Kd.vn,Kd.cnt,EU];lia
def bf9:Nk (.both a b::r)=Nk (a::b::r):=by
 simp only[Nk,Kd.vn,Kd.cnt,Hw,GH];lia
theorem bj8:∀n,Nk (BP n b++r)=vw b.vn b.cnt n+b.cnt^n*Nk r
 |0=>by simp[vw]
 |n+1=>by
  rw[FW,BB];simp only[Nk,bj8 n,vw,Fx,Hw];rw[show b.cnt^n*b.cnt*Nk r=b.cnt*(b.cnt^n*Nk r) by rw[LY (b.cnt^n),GH]];lia
def cp6:Nk (.way a b::r)=Nk (BP a.cnt b++r):=by
 rw[bj8];rfl
theorem ah1{c}:∀n,vw 0 c n=0
 |0=>rfl
 |n+1=>by simp[vw,ah1 n]
theorem ai8:∀k:Kd,k.mute=AC->k.cnt=1/\k.vn=0
 |.non,h=>by cases h
 |.one,_=>⟨rfl,rfl⟩
 |.eith _ _,h=>by cases h
 |.both a b,h=>by
  simp only[Kd.mute,BL]at h;have d:=ai8 a h.1;have c:=ai8 b h.2;exact⟨by simp only[Kd.cnt,d.1,c.1],by simp only[Kd.vn,d.1,d.2,c.2]⟩
 |.way a b,h=>by
  simp only[Kd.mute,Jv,beq_iff_eq]at h
  rcases h with h|h
  ·exact⟨by simp[Kd.cnt,h],by simp[Kd.vn,h,vw]⟩
  ·have c:=ai8 b h;exact⟨by simp[Kd.cnt,c.1],by simp only[Kd.vn,c.2,ah1]⟩
abbrev pb:Nat->Nat
 |0=>2|1=>11|_=>59
abbrev fu:Nat->Nat
 |0=>0|e+1=>fu e+1+pb e
def ci1{e d}(h:e<=d):fu e<=fu d:=by
 induction h with
 |refl=>exact Ab _
 |step _ c=>simp only[fu];lia
abbrev Cp(B:Nat)(k:Kd)(p:D):Prop:=∃q:Pg,p=q.d/\(∀Δ,q.kind Δ=AA k)/\q.kn 3/\q.parts<=B
inductive PathK(k0:Kd):List Lk->Kd->Nat->Prop where
 |nil:PathK k0 [] k0 0
 |fst {ls:List Lk} {a b:Kd} {c:Nat}:PathK k0 ls (.both a b) c->PathK k0 (ls++[.fst]) a (c+1)
 |snd {ls:List Lk} {a b:Kd} {c:Nat}:PathK k0 ls (.both a b) c->PathK k0 (ls++[.snd]) b (c+1)
 |giv {ls:List Lk} {a b:Kd} {c B:Nat} {p:D}:PathK k0 ls (.way a b) c->Cp B a p->PathK k0 (ls++[.giv p]) b (c+1+B)
def bg2{j k:Kd}{c:Nat}(h:PathK j ls k c)(hi:Γ[i]?=AA j):∃e:Pg,exD i ls=e.d/\e.kind Γ=AA k/\e.kn 3/\e.parts<=1+c:=by
 induction h with
 |nil=>exact⟨.name i,rfl,hi,trivial,Ab _⟩
 |fst _ a=>
  obtain⟨e,g,f,b,l⟩:=a;exact⟨.first e,by rw[L5,g];rfl,by simp only[Pg.kind,f],b,by simp only[Pg.parts];lia⟩
 |snd _ a=>
  obtain⟨e,g,f,b,l⟩:=a;exact⟨.second e,by rw[L5,g];rfl,by simp only[Pg.kind,f],b,by simp only[Pg.parts];lia⟩
 |giv _ s a=>
  obtain⟨e,g,f,b,l⟩:=a;obtain⟨q,p,o,n,v⟩:=s;exact⟨.give e q,by rw[L5,g,p];rfl,by simp only[Pg.kind,f,o,if_true],⟨b,n⟩,by simp only[Pg.parts];lia⟩
abbrev N0(d:Nat)(Γ:List Kd)(q:Ask):Prop:=q.lv<Γ.length/\∃k0 c e,Γ[Γ.length-1-q.lv]?=AA k0/\PathK k0 q.ls q.k c/\Lv e q.k/\q.k.bd 3/\e<=d/\c+fu e<=fu d
def N0.push{d}(h:N0 d Γ q):N0 d (a::Γ) q:=by
 obtain⟨g,b,c,e,f,r⟩:=h;refine⟨by simp;lia,b,c,e,?_,r⟩;rw[AW,show Γ.length+1-1-q.lv=Γ.length-1-q.lv+1 by lia];exact f
def N0.new{d e}(l:Lv e a)(b:a.bd 3)(he:e<=d):N0 d (a::Γ) ⟨Γ.length,[],a⟩:=
 ⟨∎,a,0,e,∎,.nil,l,b,he,by have:=ci1 he;lia⟩
theorem Pls.each{k:Kd}{R:D->Prop}(h:∀t p,Pl k t p->R p):∀{ts ps:List D},Pls k ts ps->∀p∈ps,R p
 |[],ps,c=>by cases c;simp
 |t::ts,ps,c=>by
  cases c with
  |cons a b=>
   intro p c
   rcases AK.mp c with rfl|c
   ·exact h _ _ a
   ·exact Pls.each h b p c
def bf8{d X BG:Nat}(hX:2+fu d<=X)(hP:∀e,e<d->∀c,Lv e c->c.bd 3->∀t p,Pl c t p->Cp (pb e) c p)(hg:g.nest<=3):∀(n:Nat){asks:List Ask},rks asks<=n->∀{Γ:List Kd}{ps T:List D}{x:D},(∀q∈asks,N0 d Γ q)->(∀p∈ps,Cp BG g p)->Tr g Γ.length asks ps x T ->
  ∃(y:Pg)(i:List D),x=y.d/\y.kind Γ=AA g/\y.kn 3/\y.parts+X<=2*X*Nk (asks.map (·.k))+BG*i.length/\ps=i++T/\i.length<=Nk (asks.map (·.k)):=by
 intro n
 induction n with
 |zero=>
  intro asks o Γ ps T x s j t;cases asks with
  |nil=>
   cases t with
   |@nil _ _ p ps=>
    obtain⟨q,q1,q2,q3,q4⟩:=j _ (Bw);exact⟨q,[x],q1,q2 _,q3,by simp only[CG,Nk,EA];lia,rfl,by simp[Nk]⟩
  |cons q r=>rw[l0]at o;have:=G3 q.k;lia
 |succ n Q=>
  intro asks o Γ ps T x s j t;cases t with
  |nil=>
   obtain⟨q,q1,q2,q3,q4⟩:=j _ (Bw);exact⟨q,[x],q1,q2 _,q3,by simp only[CG,Nk,EA];lia,rfl,by simp[Nk]⟩
  |@mute _ _ q r _ _ _ hm t=>
   rw[l0]at o;have pk:=G3 q.k;obtain⟨y,i,P,O,N,C,M,B⟩:=Q ⋯ (λq' h=>s q' (by simp[h])) j t;have m1:=ai8 q.k hm;have e:Nk ((q::r).map (·.k))=Nk (r.map (·.k)):=by simp only[AZ,Nk,m1,La,Er]
   exact⟨y,i,P,O,N,by rw[e];exact C,M,by rw[e];exact B⟩
  |@non _ _ l m r _=>
   obtain⟨K,I,c,e,A,z,J,w,V,R⟩:=s ⟨l,m,.non⟩ ∎;obtain⟨y,y1,Z,Y,y4⟩:=bg2 z A;refine⟨.never g y,[],by rw[y1];rfl,by simp only[Pg.kind,Z],⟨hg,Y⟩,?_,rfl,Bx _⟩;simp only[AZ,Nk,Kd.vn,Kd.cnt,LZ,JZ,FP,Pg.parts,BK,Ja];lia
  |@eith _ a b _ l m r _ p1 _ x1 x2 H t2=>
   obtain⟨K,I,c,e,A,z,J,w,V,R⟩:=s ⟨l,m,.eith a b⟩ ∎;obtain⟨y,y1,Z,Y,y4⟩:=bg2 z A;rw[l0]at o;simp only[Kd.rk]at o;have L:∀{k:Kd},k∈(Kd.eith a b).subs->k.bd 3->∀q∈(⟨Γ.length,[],k⟩:Ask)::r,N0 d (k::Γ) q:=λ{k}hk hb q f=>by
    rcases AK.mp f with rfl|f
    ·exact N0.new (J.subs' hk) hb V
    ·exact(s q (by simp[f])).push
   obtain⟨u,i,u1,u2,u3,u4,u5,u6⟩:=Q (Γ:=a::Γ) (by rw[l0];simp only;lia) (L (by simp[Kd.subs]) w.1) j H;obtain⟨v,es,v1,v2,v3,v4,v5,v6⟩:=Q (Γ:=b::Γ) (by rw[l0];simp only;lia) (L (by simp[Kd.subs]) w.2.1) (λp h=>j p (by rw[u5];simp[h])) t2;refine⟨.case y u v,i++es,by rw[y1,u1,v1];rfl,by simp only[Pg.kind,Z,u2,v2,if_true],⟨Y,u3,v3⟩,?_,by rw[u5,v5];simp,?_⟩
   ·simp only[AZ]at u4 v4 ⊢;rw[bh4,Hw,Ac,Hw];simp only[Pg.parts];lia
   ·simp only[AZ]at u6 v6 ⊢;rw[bh4,Ac];lia
  |@both _ a b _ l m r _ _ _ H=>
   obtain⟨K,I,c,e,A,z,J,w,V,R⟩:=s ⟨l,m,.both a b⟩ ∎;rw[l0]at o;simp only[Kd.rk]at o;obtain⟨e,rfl,la,lb⟩:∃G,e=G+1/\Lv G a/\Lv G b:=by cases J;exact⟨_,rfl,by assumption,by assumption⟩
   simp only[fu]at R;obtain⟨y,i,P,O,N,C,M,B⟩:=Q (by rw[l0,l0];simp only;lia) (λq f=>by
    simp only[AK]at f
    rcases f with rfl|rfl|f
    ·exact⟨K,I,c+1,e,A,z.fst,la,w.1,⋯,⋯⟩
    ·exact⟨K,I,c+1,e,A,z.snd,lb,w.2.1,⋯,⋯⟩
    ·exact s q (by simp[f])) j H
   simp only[AZ]at C B ⊢;exact⟨y,i,P,O,N,by rw[bf9];exact C,M,by rw[bf9];exact B⟩
  |@way _ a b _ l m r W _ _ _ F H=>
   obtain⟨K,I,c,e,A,z,J,w,V,R⟩:=s ⟨l,m,.way a b⟩ ∎;rw[l0]at o;simp only[Kd.rk]at o;obtain⟨e,rfl,la,lb⟩:∃G,e=G+1/\Lv G a/\Lv G b:=by cases J;exact⟨_,rfl,by assumption,by assumption⟩
   simp only[fu]at R;have U:=F.len;rw[o7]at U;have hc:=Pls.each (hP e ⋯ a la w.1) F;have hr:rks (W.map (λp=>(⟨l,m++[.giv p],b⟩:Ask)))=a.cnt*b.rk:=by
    rw[U];clear F H hc U
    induction W with
    |nil=>simp[rks]
    |cons p W ihg=>rw[AZ,l0,ihg,AW,EU];simp only;lia
   obtain⟨y,i,P,O,N,C,M,B⟩:=Q (by rw[P9,hr];lia) (λq f=>by
    rcases Ap.mp f with f|f
    ·obtain⟨p,j,rfl⟩:=Aq.mp f;exact⟨K,I,c+1+pb e,e,A,z.giv (hc p j),lb,w.2.1,⋯,⋯⟩
    ·exact s q (by simp[f])) j H
   have ek:((W.map (λp=>(⟨l,m++[.giv p],b⟩:Ask)))++r).map (·.k)=BP a.cnt b++r.map (·.k):=by
    rw[Ae,BN,U]
    congr 1
    exact List.map_const' ..
   rw[ek,<-cp6]at C B;exact⟨y,i,P,O,N,C,M,B⟩
def Y4{k}(h:Lv 0 k):k.vn=0/\k.cnt<=2:=by cases h<;>simp[Kd.vn,Kd.cnt]
def Y3{k:Kd}(h:Lv 1 k)(l:k.bd 3):k.vn+k.cnt<=3/\(k.vn=0\/k.vn=1/\k.cnt=0):=by
 have m:=Kd.bd_le l;have a:k.vn=0->k.vn+k.cnt<=3/\(k.vn=0\/k.vn=1/\k.cnt=0):=λz=>⟨⋯,.inl z⟩;cases h with
 |one=>exact a rfl
 |non=>exact⟨by simp[Kd.vn,Kd.cnt],.inr ⟨rfl,rfl⟩⟩
 |two=>exact a rfl
 |eith c b=>exact a (by simp only[Kd.vn,(Y4 c).1,(Y4 b).1])
 |both c b=>exact a (by simp only[Kd.vn,(Y4 c).1,(Y4 b).1,Ja])
 |way c b=>exact a (by simp only[Kd.vn,(Y4 b).1,ah1])
def cn4:∀n,vw 1 0 n<=1
 |0=>by simp[vw]
 |n+1=>by simp[vw]
def dc4{k:Kd}(h:Lv 2 k)(d:k.bd 3):k.vn<=3:=by
 cases h with
 |one=>simp[Kd.vn]
 |non=>simp[Kd.vn]
 |two=>simp[Kd.vn]
 |eith e c=>have:=Y3 e d.1;have:=Y3 c d.2.1;simp only[Kd.vn];lia
 |@both _ a b e c=>
  have m:=Y3 e d.1;have f:=Y3 c d.2.1;have n:=Kd.bd_le d.1;simp only[Kd.vn]
  rcases f.2 with z|z
  ·rw[z,Ja];lia
  ·rw[z.1,FP]
   rcases m.2 with w|w<;>lia
 |@way _ a b e c=>
  have f:=Y3 c d.2.1;simp only[Kd.vn]
  rcases f.2 with z|z
  ·rw[z,ah1];lia
  ·rw[z.1,z.2];have:=cn4 a.cnt;lia
def bd5:∀(d:Nat),d<=2->∀k:Kd,Lv d k->k.bd 3->∀t p,Pl k t p->Cp (pb d) k p:=by
 intro d;have two:∀{d:Nat}{t p:D},Pl (.eith .one .one) t p->Cp (pb d) (.eith .one .one) p:=λ{d t p}h=>by
  have j:2<=pb d:=by match d with|0=>decide|1=>decide|d+2=>exact(by decide:2<=59)
  cases h with
  |l h=>cases h;exact⟨.left .one .star,rfl,λ_=>rfl,⟨∅,trivial⟩,by simpa[Pg.parts]using j⟩
  |r h=>cases h;exact⟨.right .one .star,rfl,λ_=>rfl,⟨∅,trivial⟩,by simpa[Pg.parts]using j⟩
 have one:∀{d:Nat}{t p:D},Pl .one t p->Cp (pb d) .one p:=λ{d t p}h=>by
  have j:2<=pb d:=by match d with|0=>decide|1=>decide|d+2=>exact(by decide:2<=59)
  cases h;exact⟨.star,rfl,λ_=>rfl,trivial,by simp only[Pg.parts];lia⟩
 induction d using Jj with
 |ind d n=>
  intro E k lk m t p h;cases lk with
  |one=>exact one h
  |non=>cases h
  |two=>exact two h
  |@eith e a b f i=>
   have na:=f.nest;have R:=i.nest;have hp:1+pb e<=pb (e+1):=by match e,E with|0,_=>decide|1,_=>decide
   cases h with
   |l h=>
    obtain⟨q,w,v,s,F⟩:=n e ⋯ ⋯ a f m.1 _ _ h;exact⟨.left b q,by rw[w];rfl,λΔ=>by simp only[Pg.kind,v],⟨⋯,s⟩,by simp only[Pg.parts];lia⟩
   |r h=>
    obtain⟨q,w,v,s,F⟩:=n e ⋯ ⋯ b i m.2.1 _ _ h;exact⟨.right a q,by rw[w];rfl,λΔ=>by simp only[Pg.kind,v],⟨⋯,s⟩,by simp only[Pg.parts];lia⟩
  |@both e a b f i=>
   have hp:1+pb e+pb e<=pb (e+1):=by match e,E with|0,_=>decide|1,_=>decide
   cases h with
   |both A j=>
    obtain⟨q,w,v,s,F⟩:=n e ⋯ ⋯ a f m.1 _ _ A;obtain⟨u,J,I,H,u4⟩:=n e ⋯ ⋯ b i m.2.1 _ _ j;exact⟨.pair q u,by rw[w,J];rfl,λΔ=>by simp only[Pg.kind,v,I],⟨s,H⟩,by simp only[Pg.parts];lia⟩
  |@way e a b f i=>
   have na:=f.nest;have R:=i.nest;cases h with
   |@way _ _ K ps x A j=>
    have C:=Pls.each (n e ⋯ ⋯ b i m.2.1) A;obtain⟨y,G,P,O,N,M,r5,L⟩:=bf8 (d:=e) (X:=2+fu e) (BG:=pb e) (g:=b) (Ab _) (λe' he' c lc bc=>n e' ⋯ ⋯ c lc bc) ⋯ _ (Ab _) (Γ:=[a]) (λq hq=>by
     simp only[Am]at hq;subst hq;exact N0.new (Γ:=[]) f m.1 (Ab _)) C j
    refine⟨.way a y,by rw[P];rfl,λΔ=>?_,⟨⋯,N⟩,?_⟩
    ·have:=b39 (Δ:=Δ) y O;simp only[BB,BH]at this;simp only[Pg.kind,this]
    ·simp only[AZ,CG,Nk,FP]at M L;simp only[Pg.parts]
     match e,E with
     |0,_=>
      have h0:=Y4 f;have h4:a.vn+a.cnt<=2:=by lia
      have m1:pb 0*G.length<=2*2:=Cs ∅ ⋯;have m2:2*(2+fu 0)*(a.vn+a.cnt)<=4*2:=Cs ∅ h4;have e1:fu 0=0:=rfl;have e2:pb (0+1)=11:=rfl;lia
     |1,_=>
      have A:=Y3 f m.1;have m1:pb 1*G.length<=11*3:=Cs ∅ ⋯;have m2:2*(2+fu 1)*(a.vn+a.cnt)<=10*3:=Cs ∅ A.1;have e1:fu 1=3:=rfl;have e2:pb (1+1)=59:=rfl;lia
section
variable (T:PKs P G)
include T
def bz5{st:Sto}{q:Ask}{r:List Ask}(M:6<=n)(hPl:∀c:Kd,Lv m c->c.bd 20->PlT P G n c)(ok:AskOk m dp q)(S:q.k≠.non)(h2:∀a b,q.k≠.eith a b)(t:Tr g dp (q::r) ps x p')(h:∀qs st',Kp [] st st'->Tr g dp (qs++r) ps x p'->rks qs<q.k.rk->(∀q'∈qs,AskOk m dp q')->Q (chD (qs++r)) st'):sem P G (n+1) "opened" [B5 q,chD r] st Q:=by
 obtain⟨B,w,k⟩:=q;refine i5 T.opened rfl [AA (B5 ⟨B,w,k⟩),AA (chD r),AD,AD,AD] rfl ?_;unfold aa2;simp only[B5];obtain⟨R,C,H,o4⟩:=ok;simp only at S h2 h R C H o4;(iterate 2 ∎);intro pa E;cases k with
 |non=>exact absurd rfl S
 |eith a b=>exact absurd rfl (h2 a b)
 |one=>
  simp only[Kd.d];(iterate 2 ∎);refine ag1 T (qs:=[]) M f6 ∎ λst' K=>h [] st' ((Kp.refl.new E).trans K) (J6 .one rfl t) (by simp[rks,Kd.rk]) ∎
 |both a b=>
  simp only[Kd.d];simp only[Kd.nest]at o4;(iterate 2 ∎);obtain⟨n,rfl⟩:∃k,n=k+1:=⟨n-1,⋯⟩;refine⟨by rw[T.looked];rfl,at4 T (q:=⟨B,w,.both a b⟩) (l:=.fst) (k:=a) (by show w.length<=1000;lia) ⟨by rw[T.looked];rfl,at4 T (q:=⟨B,w,.both a b⟩) (l:=.snd) (k:=b) (by show w.length<=1000;lia) λp2 hp2=>?_⟩⟩;∎;obtain⟨qs,i⟩:∃qs:List Ask,qs=[⟨B,w++[.fst],a⟩,⟨B,w++[.snd],b⟩]:=⟨_,rfl⟩;have A:∀q'∈qs,AskOk m dp q':=by
   intro q' f;rw[i]at f;simp only[AK,Aa,or_false]at f
   rcases f with rfl|rfl
   ·exact⟨R,C.1,H.subs' (by simp[Kd.subs]),by simp;lia⟩
   ·exact⟨R,C.2.1,H.subs' (by simp[Kd.subs]),by simp;lia⟩
  have tl:Tr g dp (C3 qs++r) ps x p':=by
   cases t with
   |mute F t=>
    simp only[Kd.mute,BL]at F;rw[i,au4 F.1,au4 F.2];exact t
   |both t=>exact ag9 (u:=[]) (by rw[i];exact t)
  have rl:rks (C3 qs)<(Kd.both a b).rk:=by
   have h3:=aq5 qs;have h4:rks qs=a.rk+(b.rk+0):=by rw[i,l0,l0];rfl
   simp only[Kd.rk];lia
  refine ag1 T (qs:=qs) M ?_ (λq' f=>by have:=(A q' f).ll;lia) λst' K=>h (C3 qs) st' (((Kp.refl.new E).new hp2).trans K) tl rl λq' f=>A q' (bb9 f);rw[f6,i];rfl
 |way a b=>
  simp only[Kd.d];simp only[Kd.nest]at o4;(iterate 2 ∎);refine⟨by rw[T.nothing];rfl,bh3 T (k:=.way a b) M (by simp only[Kd.nest];lia) λst1 K1=>⟨_,rfl,?_⟩⟩;have J:=K1.at' (f6 (st:=st) (a:=pa) (o:=.lst [])) ∎;have O:Kp [] st st1:=(Kp.refl.new E).trans K1;cases F:(Kd.way a b).mute with
  |true=>
   rw[if_neg ∅];exact ag1 T (qs:=[]) M J ∎ λst' K=>h [] st' (O.trans K) (J6 (.way a b) F t) (by simp only[Kd.rk];rw[show rks []=0 from rfl];lia) ∎
  |false=>
   rw[if_pos rfl];cases t with
   |mute z _=>rw[show(Kd.way a b).mute=AC from z]at F;cases F
   |@way _ _ _ _ _ _ _ gs _ _ _ hg t=>
    obtain⟨n,rfl⟩:∃k,n=k+1:=⟨n-1,⋯⟩;have la:=o7 a;have ca:=Kd.bd_le C.1;∎;refine⟨by rw[T.things];rfl,bz8 T.toPT1 ⋯ (Kd.bd_mono ∅ C.1) ⋯ λta st2 hta0 hta K2=>?_⟩;rfl';refine⟨_,.inl hta,by rw[la];lia,?_⟩;have hgl:=hg.len;obtain⟨qs,i⟩:∃qs:List Ask,qs=gs.map λp=>⟨B,w++[.giv p],b⟩:=⟨_,rfl⟩;refine F9 (λl acc env' st'=>∃(v j:List D)(x:Option D),gs=v++j/\(∀t∈l,t∈a.things)/\Pls a l j/\acc=v.map (λp=>B5 ⟨B,w++[.giv p],b⟩)/\env'=[AA (B5 ⟨B,w,.way a b⟩),AA (.tup [.str "way",a.d,b.d]),x]/\st' ta=AA (.lst a.things)/\Kp [] st2 st') ?_ ?_ _ _ _ _ ⟨[],gs,AD,rfl,λt ht=>ht,hg,rfl,rfl,hta,Kp.refl⟩
    ·rintro acc env' st3 ⟨v,j,x,e,hmem,L,rfl,rfl,hta3,K3⟩;cases L;rw[Ao]at e;subst e;refine⟨.inl hta3,λp2 hp2=>?_⟩;have A:∀q'∈qs,AskOk m dp q':=by
      intro q' f;rw[i]at f;obtain⟨p,_,rfl⟩:=Aq.mp f;exact⟨R,C.2.1,H.subs' (by simp[Kd.subs]),by simp;lia⟩
     have rl:rks (C3 qs)<(Kd.way a b).rk:=by
      have h3:=aq5 qs;have h4:rks qs=gs.length*b.rk:=by rw[i,ab2]
      simp only[Kd.rk];rw[<-la,hgl];lia
     refine ag1 T (qs:=qs) M ?_ (λq' f=>by have:=(A q' f).ll;lia) λst' K=>h (C3 qs) st' ((O.trans ((K2.trans K3).new hp2)).trans K) (ag9 (u:=[]) (by rw[i];exact t)) rl λq' f=>A q' (bb9 f);rw[f6,i,BN];rfl
    ·rintro d ds acc env' st3 ih ⟨v,j,x,e,hmem,L,rfl,rfl,hta3,K3⟩;refine⟨.inl hta3,?_⟩;cases L with
     |@cons _ _ p _ j S L=>
     rfl';refine⟨by rw[T.looked];rfl,by rw[T.plt];rfl,hPl a (H.subs' (by simp[Kd.subs])) C.1 _ _ (hmem _ ∎) S _ (Ab _) _ _ λst4 K4=>?_⟩;rfl';exact at4 T (q:=⟨B,w,.way a b⟩) (l:=.giv p) (k:=b) (by show w.length<=1000;lia) (ih _ _ _ ⟨v++[p],j,_,by rw[e];simp,λt ht=>hmem t (by simp[ht]),L,∎,rfl,K4.at' hta3 ∎,K3.trans K4⟩)
def b11{m:Nat}{asks:List Ask}(F:7<=n)(l:∀c:Kd,Lv m c->c.bd 20->PlT P G (n-1) c)(B:∀q∈asks,AskOk m dp q)(t:Tr g dp asks ps x p')(h:∀d e,Kp [] st e->Tr g dp d ps x p'->rks d<=rks asks->(∀q∈d,AskOk m dp q)->(d=[]\/∃f ls k r,d=⟨f,ls,k⟩::r/\(k=.non\/∃a b,k=.eith a b))->Q (chD d) e):sem P G (n+1) "next_asked" [chD asks] st Q:=by
 obtain⟨n,rfl⟩:∃k,n=k+1:=⟨n-1,⋯⟩;refine i5 T.nexta rfl [AA (chD asks)] rfl ?_;refine ap9 (λm' env e=>∃d,m'=rks d/\env=[AA (chD d)]/\Tr g dp d ps x p'/\rks d<=rks asks/\(∀q∈d,AskOk m dp q)/\Kp [] st e) ?_ _ _ _ ⟨asks,rfl,rfl,t,Ab _,B,Kp.refl⟩;rintro _ env e W ⟨d,rfl,rfl,t',hr,ok',K⟩ hW;have i:(d=[]\/∃f ls k r,d=⟨f,ls,k⟩::r/\(k=.non\/∃a b,k=.eith a b))->l5 (Zg P G (n+1)) (.cons (.ret (.v 0)) .nil) (o5 Q) [AA (chD d)] e:=λhf=>by
  ∎;exact f7 (h d e K t' hr ok' hf)
 cases d with
 |nil=>
  rw[ag8];rfl';exact .inl ⟨rfl,i (.inl rfl)⟩
 |cons q r=>
  obtain⟨f,ls,k⟩:=q;rw[ag8];simp only[chD,B5,Kd.d_w k];rfl';refine .inr ⟨∎,F7 _,by simp[D.pures,F7],by rw[D4];lia,?_⟩;have H:([D.str (AV "none"),D.str (AV "either")].any λy=>deq y (D.str (AV k.w)))=(AE ("none"=k.w)||(AE ("either"=k.w)||false)):=by simp only[Fs,List.any_nil,N8,p5]
  have o:k≠.non->(∀a b,k≠.eith a b)->l5 (Zg P G (n+1)) (.cons (.set 0 (.call "opened" (.cons (.ix (.v 0) (.int 0)) (.cons (.ix (.v 0) (.int 1)) .nil)))) .nil) ⟨W,(o5 Q).rt,l5 (Zg P G (n+1)) (.cons (.ret (.v 0)) .nil) (o5 Q),W⟩ [AA (chD (⟨f,ls,k⟩::r))] e:=λk1 k2=>by
   simp only[chD];∎;refine⟨by rw[T.opened];rfl,bz5 T (m:=m) ⋯ l (ok' ⟨f,ls,k⟩ ∎) k1 k2 t' λqs st2 K2 t2 r2 ok2=>?_⟩;simp only at r2;rw[l0]at hr;simp only at hr;refine hW _ _ _ ?_ ⟨qs++r,rfl,rfl,t2,?_,λq j=>?_,K.trans K2⟩
   ·rw[P9,l0];simp only;lia
   ·rw[P9];lia
   ·rcases Ap.mp j with j|j
    ·exact ok2 q j
    ·exact ok' q (by simp[j])
  cases k with
  |non=>exact i (.inr ⟨f,ls,.non,r,rfl,.inl rfl⟩)
  |eith a b=>exact i (.inr ⟨f,ls,.eith a b,r,rfl,.inr ⟨a,b,rfl⟩⟩)
  |one=>exact o nofun nofun
  |both a b=>exact o nofun nofun
  |way a b=>exact o nofun nofun
def b04(h:Q (chD (nA Γ)) st):sem P G (n+1) "asked_names" [.tup (Γ.map Kd.d)] st Q:=by
 refine i5 T.anames rfl [AA (.tup (Γ.map Kd.d)),AD,AD,AD] rfl ?_;unfold ak3;(iterate 2 ∎);rw[<-Hg];refine A0 (λl env st'=>st'=st/\∃(a b:List Kd)(g f:Option D),Γ=a++b/\l=B9 b.length (a.reverse.map Kd.d)/\env=[AA (.tup (Γ.map Kd.d)),AA (chD (nA b)),g,f]) ?_ ?_ _ _ _ ⟨rfl,Γ,[],AD,AD,∎,rfl,rfl⟩
 ·rintro env st' ⟨rfl,a,b,g,f,e,el,rfl⟩;refine⟨trivial,?_⟩
  rcases V4 a with rfl|⟨a,c,rfl⟩
  ·rw[BH]at e;subst e;∎;exact f7 h
  ·simp[B9]at el
 ·rintro d ds env st' ih ⟨rfl,a,b,g,f,e,el,rfl⟩;refine⟨trivial,?_⟩
  rcases V4 a with rfl|⟨a,c,rfl⟩
  ·simp[B9]at el
  rw[GB,CM,JJ,BH,BB,BH,AZ,B9]at el;simp only[AY]at el;obtain⟨rfl,rfl⟩:=el;rfl';∎;exact ih _ _ ⟨rfl,a,c::b,_,_,by rw[e];simp,rfl,rfl⟩
end
inductive Tk where
 |ask (l:List Ask) (dp:Nat)|join (e:D)
abbrev Tk.d:Tk->D
 |.ask l dp=>.tup [.str "ask",chD l,.int dp]
 |.join e=>.tup [.str "join",.tup [.str "case",e]]
inductive Mc(g:Kd)(m B:Nat)(r:D):Nat->List Tk->List D->List D->Prop where
 |done {ps:List D}:Mc g m B r 0 [] ps [r]
 |ask {c:Nat} {S:List Tk} {asks:List Ask} {dp:Nat} {ps p' ds:List D} {x:D}:Tr g dp asks ps x p'->(∀q∈asks,AskOk m dp q)->S.length+2*rks asks+1<=B->Mc g m B r c S p' (ds++[x])->Mc g m B r (c+3^rks asks) (S++[.ask asks dp]) ps ds
 |join {c:Nat} {S:List Tk} {ps ds:List D} {e x y:D}:S.length+1<=B->Mc g m B r c S ps (ds++[.tup [.str "case",e,x,y]])->Mc g m B r (c+1) (S++[.join e]) ps ((ds++[x])++[y])
def Mc.len{c}{r}{S}(h:Mc g m B r c S ps ds):ds.length<=S.length+1/\S.length<=B:=by
 induction h with
 |done=>simp
 |ask _ _ d _ b=>grind
 |join d _ b=>simp_all
def Mc.inv{c:Nat}{r:D}{S:List Tk}(h:Mc g m B r c S ps ds):(S=[]/\ds=[r])\/(∃d a asks dp i x,S=a++[.ask asks dp]/\c=d+3^rks asks/\Tr g dp asks ps x i/\(∀q∈asks,AskOk m dp q)/\a.length+2*rks asks+1<=B/\Mc g m B r d a i (ds++[x]))\/∃d a b e x y,S=a++[.join e]/\c=d+1/\ds=b++[x,y]/\a.length+1<=B/\Mc g m B r d a ps (b++[.tup [.str "case",e,x,y]]):=by
 cases h with
 |done=>exact .inl ⟨rfl,rfl⟩
 |ask t k f h=>exact .inr (.inl ⟨_,_,_,_,_,_,rfl,rfl,t,k,f,h⟩)
 |join f h=>exact .inr (.inr ⟨_,_,_,_,_,_,rfl,rfl,∎,f,h⟩)
section
variable (T:PKs P G)
include T
def a72{n m:Nat}{r:D}(hn:8<=n)(hPl:∀c:Kd,Lv m c->c.bd 20->PlT P G (n-2) c)(hΓ:∀k∈Γ,k.bd 20/\Lv m k/\k.nest<=9)(hR:rks (nA Γ)<=200)(hpa:st pa=AA (.lst ps))(hps:ps.length<=1000)(t:Tr g Γ.length (nA Γ) ps r p')(h:∀i,Kp [] st i->Q r i):sem P G (n+1) "asking" [.tup (Γ.map Kd.d),g.d,.ref pa] st Q:=by
 obtain⟨n,rfl⟩:∃k,n=k+1:=⟨n-1,⋯⟩;refine i5 T.asking rfl [AA (.tup (Γ.map Kd.d)),AA g.d,AA (.ref pa),AD,AD,AD,AD,AD,AD,AD,AD] rfl ?_;∎;refine⟨_,.inl hpa,⋯,λlf hlf=>?_⟩;intro dn s;∎;refine⟨by rw[T.anames];rfl,b04 T ?_⟩;intro H v;rw[AT];have j:st dn=AD:=none_of (Kp.refl.new hlf) s;have F:st H=AD:=none_of ((Kp.refl.new hlf).new s) v;have Z:lf≠dn:=j9 f6 s;have n2:lf≠H:=j9 (i7 f6 s) v;have L:dn≠H:=j9 f6 v;have R:∀{i:Sto}{a:AH}{o:Ob},st a=AD->Kp [] st i->Kp [] st (c9 i a o):=λ{i a o}ha K b u nb e=>f8 (K b u nb e) (j9 e ha);obtain⟨B,hB⟩:∃B,B=2*rks (nA Γ)+1:=⟨_,rfl⟩;refine ap9 (λc env i=>∃(S:List Tk)(N M:List D)(x6 x7 x8 x9 X:Option D),env=[AA (.tup (Γ.map Kd.d)),AA g.d,AA (.ref pa),AA (.ref lf),AA (.ref dn),AA (.ref H),x6,x7,x8,x9,X]/\Mc g m B r c S N M/\i lf=AA (.lst N.reverse)/\i dn=AA (.lst M)/\i H=AA (.lst (S.map Tk.d))/\Kp [] st i) ?_ _ _ _ ⟨[.ask (nA Γ) Γ.length],ps,[],AD,AD,AD,AD,AD,rfl,Mc.ask (c:=0) (S:=[]) t (λq C=>?_) (by simp;lia) .done,i7 (i7 f6 s) v,i7 f6 v,f6,((Kp.refl.new hlf).new s).new v⟩
 ·rintro c env i W ⟨S,N,M,x6,x7,x8,x9,X,rfl,hm,h3,h4,h5,K⟩ hW;obtain⟨l1,l2⟩:=hm.len;rw[ag8];rfl';rw[z0 (.inl h5)];rfl'
  rcases hm.inv with⟨rfl,rfl⟩|⟨c',S,f,l,p2,x,rfl,rfl,t,ok,hb,E⟩|⟨c',S,M,e,x,y,rfl,rfl,rfl,hb,E⟩
  ·rw[if_neg ∎];∎;rw[n8 (.inl h4)];exact⟨r,rfl,f7 (h i K)⟩
  ·rw[if_pos ∎];rw[Ae]at h5;∎;rw[Q9 (by exact h5)];have A:=f8 (u:=.lst (S.map Tk.d)) h3 n2;have J:=f8 (u:=.lst (S.map Tk.d)) h4 L;have w:c9 i H (.lst (S.map Tk.d)) H=AA (.lst (S.map Tk.d)):=f6;have K':Kp [] st (c9 i H (.lst (S.map Tk.d))):=R F K;revert A J w K';generalize c9 i H (.lst (S.map Tk.d))=st1;intro A J w K';∎;simp only[Tk.d];rfl';∎;have lead:∀{b:Nat},b<=rks f->3^b<=3^rks f:=λhb=>BX ∅ hb;have O:∀b:Nat,1<=3^b:=λb=>LB ∅;refine⟨by rw[T.nexta];rfl,b11 T (n:=n) (m:=m) ⋯ (λc h1 h2=>by have:=hPl c h1 h2;rwa [show n+1-2=n-1 by lia]at this) ok t λasks' st2 K2 t2 r2 ok2 hf=>?_⟩;have g3:=K2.at' A ∎;have g4:=K2.at' J ∎;have g5:=K2.at' w ∎;have U:=K'.trans K2;clear h3 h4 h5 A J w K2 t;(iterate 2 ∎)
   rcases hf with rfl|⟨lv,ls,k,I,rfl,hk⟩
   ·refine .inl ⟨rfl,?_⟩;rfl';∎;cases t2;rw[CM]at g3;rw[u0 (.inl g4),Q9 g3];refine⟨trivial,?_⟩;rw[C6 (f8 g4 Z.symm)];refine⟨C4 ⋯,?_⟩;∎;have:=O (rks f);exact hW c' _ _ ⋯ ⟨S,p2,M++[x],_,_,_,_,_,rfl,E,f8 f6 Z,f6,f8 (f8 g5 n2.symm) L.symm,R j (R hlf U)⟩
   ·refine .inr ⟨nofun,?_⟩;rfl';obtain⟨q1,q2,q3,q4⟩:=ok2 ⟨lv,ls,k⟩ ∎;simp only at q1 q2 q3 q4;∎;simp only[chD,B5];rfl';refine⟨by rw[T.expr];rfl,ch6 T q1 ?_⟩;∎
    rcases hk with rfl|⟨a,b,rfl⟩
    ·simp only[Kd.d];rfl';∎;cases t2 with
     |mute z _=>cases z
     |non=>
      rw[u0 (.inl g4)];refine⟨trivial,?_⟩;rw[C6 g4];refine⟨C4 ⋯,?_⟩;rfl';have:=O (rks f);exact hW c' _ _ ⋯ ⟨S,N,M++[_],_,_,_,_,_,rfl,E,f8 g3 Z,f6,f8 g5 L.symm,R j U⟩
    ·simp only[Kd.d];rfl';∎;have ec:t5 [D.str (AV "either"),a.d,b.d] (AA 1) AD=[a.d,b.d]:=by rw[show(1:Int)=((1:Nat):Int) from rfl,aa8];rfl
     refine⟨by simp[HT.sIx],by rw[ec];simp,?_⟩;rw[ec];obtain⟨env0,he0⟩:∃e:j8,e=[AA (.int l),AA (.tup [.tup [.int lv,.tup (ls.map Lk.d),.tup [.str "either",a.d,b.d]],chD I])]:=⟨_,rfl⟩;refine G0 (λd=>.tup [.str "ask",.tup [.tup [.int l,.tup [],d],chD I],.int ((l+1:Nat):Int)]) (λenv=>∃x,env=[AA (.int l),AA (.tup [.tup [.int lv,.tup (ls.map Lk.d),.tup [.str "either",a.d,b.d]],chD I]),x]) (λenv y h=>by obtain⟨x,rfl⟩:=h;exact⟨_,rfl⟩) (λenv K h=>h) (λenv y K h hk=>by
      obtain⟨x,rfl⟩:=h;rfl';exact hk) trivial _ _ _ ⟨AD,rfl⟩ ?_
     intro p V;simp only[AZ,CG,BH];have npa:H≠p:=j9 g5 V;∎;rw[u0 (.inl (i7 g5 V))];refine⟨trivial,λp3 hp3=>?_⟩;rw[ad5 (i7 (i7 g5 V) hp3) f6];refine⟨p9 (by simp only[AT,AW,BK];lia),?_⟩;rfl';cases t2 with
     |mute z _=>cases z
     |@eith _ _ _ _ _ _ _ _ p1 _ x1 y1 t3 t4=>
     rw[l0]at r2;simp only[Kd.rk]at r2;simp only[Kd.nest]at q4;have Y:∀q∈I,AskOk m (l+1) q:=λq C=>by
      obtain⟨w1,w2,w3,w4⟩:=ok2 q (by simp[C]);exact⟨⋯,w2,w3,w4⟩
     have ra:rks (⟨l,[],a⟩::I)+2<=rks f:=by rw[l0];simp only;lia
     have rb:rks (⟨l,[],b⟩::I)+2<=rks f:=by rw[l0];simp only;lia
     have M1:=Mc.join (e:=exD (l-1-lv) ls) (x:=x1) (y:=y1) ⋯ E;have M2:=Mc.ask (asks:=⟨l,[],b⟩::I) (dp:=l+1) t4 (λq C=>by
      rcases AK.mp C with rfl|C
      ·exact⟨ET _,q2.2.1,q3.subs' (by simp[Kd.subs]),by simp;lia⟩
      ·exact Y q C) (by simp only[Ac,AW,BK];lia) M1
     have M3:=Mc.ask (asks:=⟨l,[],a⟩::I) (dp:=l+1) t3 (λq C=>by
      rcases AK.mp C with rfl|C
      ·exact⟨ET _,q2.1,q3.subs' (by simp[Kd.subs]),by simp;lia⟩
      ·exact Y q C) (by simp only[Ac,AW,BK];lia) M2
     refine hW _ _ _ ?_ ⟨_,N,M,_,_,_,_,_,rfl,M3,f8 (i7 (i7 g3 V) hp3) n2,f8 (i7 (i7 g4 V) hp3) L,?_,R F ((U.new V).new hp3)⟩
     ·have e1:3^rks (⟨l,[],a⟩::I)<=3^(rks f-2):=BX ∅ ⋯;have e2:3^rks (⟨l,[],b⟩::I)<=3^(rks f-2):=BX ∅ ⋯;have e3:3^rks f=3^(rks f-2)*9:=by rw[show(9:Nat)=3^2 from rfl,<-Nat.pow_add,Nat.sub_add_cancel ⋯]
      have e4:=O (rks f-2);lia
     ·rw[f6];simp only[Ae,AZ,CG,Tk.d,BV,BB,BH,chD,B5,CG]
  ·rw[if_pos ∎];rw[Ae]at h5;∎;rw[Q9 (by exact h5)];∎;simp only[Tk.d];rfl';∎;rw[u0 (.inl (f8 h4 L))];refine⟨trivial,by rw[T.taken];rfl,?_⟩;refine bb0 T.toPM (m:=2) rfl (f8 h4 L) ∎ λta st2 hta hne hta2 hdn2 K2=>?_;rw[bh1 (.inl hta2)];rfl';refine⟨p9 ∅,?_⟩;rw[C6 hdn2];simp only[Ac,AW,BK]at l1 l2;refine⟨C4 ⋯,?_⟩;have A:st2 lf=AA (.lst N.reverse):=K2.at' (f8 h3 n2) (by simp;exact Z);have w:st2 H=AA (.lst (S.map Tk.d)):=K2.at' f6 (by simp;exact L.symm);have K3:Kp [] st st2:=λb u nb e=>K2.at' (R F K b u nb e) (by simp;exact j9 e j);exact hW c' _ _ ⋯ ⟨S,N,M++[_],_,_,_,_,_,rfl,E,f8 A Z,f6,f8 w L.symm,R j K3⟩
 ·obtain⟨w1,w2,w3⟩:=W6 C;obtain⟨k1,k2,k3⟩:=hΓ _ w1;exact⟨w3,k1,k2,by rw[w2];simp;lia⟩
end
abbrev D.its:D->List D
 |.tup l=>l
 |_=>[]
abbrev D.at(d:D)(i:Nat):D:=d.its.getD i .non
abbrev D.isL:D->Bool
 |.str s=>s="l"
 |_=>AF
abbrev J9(c:Kd×D):List (Kd×D):=match c.1 with
 |.both a b=>[(a,c.2.at 1),(b,c.2.at 2)]
 |.way _ b=>(c.2.at 1).its.map λg=>(b,g)
 |.eith a b=>[(if(c.2.at 0).isL then a else b,c.2.at 1)]
 |_=>[]
abbrev tsz:Kd->D->Nat
 |.non,_=>1
 |.one,_=>1
 |.both a b,d=>1+(tsz a (d.at 1)+tsz b (d.at 2))
 |.way _ b,d=>1+((d.at 1).its.map λg=>tsz b g).sum
 |.eith a b,d=>1+(if(d.at 0).isL then tsz a (d.at 1)else tsz b (d.at 1))
abbrev nsz(c:Kd×D):Nat:=tsz c.1 c.2
abbrev O5(c:Kd×D):D:=.tup [c.1.d,c.2]
section
variable {w:Str} 
def bo8:tsz (.eith a b) (.tup [.str "l",u])=1+tsz a u:=rfl
def bp4:tsz (.eith a b) (.tup [.str "r",u])=1+tsz b u:=rfl
def dd7:tsz (.both a b) (.tup [.str w,u,v])=1+(tsz a u+tsz b v):=rfl
def dh1:tsz (.way a b) (.tup [.str w,.tup row])=1+(row.map λg=>tsz b g).sum:=rfl
def bo2:J9 (.eith a b,.tup [.str "l",u])=[(a,u)]:=rfl
def ay0:J9 (.eith a b,.tup [.str "r",u])=[(b,u)]:=rfl
def bo9:J9 (.both a b,.tup [.str w,u,v])=[(a,u),(b,v)]:=rfl
def ax0:J9 (.way a b,.tup [.str w,.tup row])=row.map λg=>(b,g):=rfl
end
def cc6(c:Kd×D):nsz c=1+((J9 c).map nsz).sum:=by
 obtain⟨k,t⟩:=c;cases k with
 |non=>rfl
 |one=>rfl
 |both a b=>rfl
 |way a b=>simp only[nsz,J9,tsz,BN,Bp]
 |eith a b=>show 1+_=1+(tsz (if _ then a else b) _+0);cases(t.at 0).isL<;>rfl
theorem bj7{α:Type}{f:α->Nat}{b:Nat}:∀{l:List α},(∀x∈l,f x<=b)->(l.map f).sum<=l.length*b
 |[],_=>by simp
 |x::l,h=>by
  have:=bj7 (l:=l) λy hy=>h y (by simp[hy]);have:=h x ∎;rw[AZ,Dt,AW,EU,Er];lia
abbrev zb:Nat->Nat
 |0=>2|1=>5|2=>21|_=>421
def cr9:∀(d:Nat),d<=3->∀(k:Kd)(t:D),Lv d k->k.bd 20->t∈k.things->tsz k t<=zb d:=by
 intro d
 induction d with
 |zero=>
  intro _ k t j m h;cases j with
  |one=>simp[tsz,zb]
  |two=>
   simp only[Kd.things,AZ,CG,BB,BH,AK,Aa,or_false]at h
   rcases h with rfl|rfl<;>simp[bo8,bp4,tsz,zb]
 |succ d p=>
  intro hd k t j m h;have z1:2<=zb d:=by unfold zb;split<;>decide
  have z2:1+2*zb d<=zb (d+1):=by
   obtain rfl|rfl|rfl:d=0\/d=1\/d=2:=by lia
   all_goals decide
  cases k with
  |non=>simp[Kd.things]at h
  |one=>simp only[tsz];lia
  |eith a b=>
   have n:=j.subs (c:=a) (by simp[Kd.subs]);have o:=j.subs (c:=b) (by simp[Kd.subs]);simp only[Kd.things,Ap,Aq]at h
   rcases h with⟨u,q,rfl⟩|⟨u,q,rfl⟩
   ·have:=p ⋯ a u n m.1 q;rw[bo8];lia
   ·have:=p ⋯ b u o m.2.1 q;rw[bp4];lia
  |both a b=>
   have n:=j.subs (c:=a) (by simp[Kd.subs]);have o:=j.subs (c:=b) (by simp[Kd.subs]);simp only[Kd.things,Be,Aq]at h;obtain⟨u,q,v,hv,rfl⟩:=h;have:=p ⋯ a u n m.1 q;have:=p ⋯ b v o m.2.1 hv;rw[dd7];lia
  |way a b=>
   have n:=j.subs (c:=a) (by simp[Kd.subs]);have o:=j.subs (c:=b) (by simp[Kd.subs]);simp only[Kd.things,Aq]at h;obtain⟨i,hr,rfl⟩:=h;obtain⟨rl,B⟩:=F8 _ _ _ hr;have h1:=bj7 (f:=λg=>tsz b g) (l:=i) λg hg=>p ⋯ b g o m.2.1 (B g hg);have tl:=o7 a;have ca:=Kd.bd_le m.1;rw[dh1];obtain rfl|rfl|rfl:d=0\/d=1\/d=2:=by lia
   ·have c0:=(lv0 n).1;have:i.length*zb 0<=2*zb 0:=CQ _ ⋯;have e:1+2*zb 0<=zb (0+1):=by decide
    lia
   ·have c0:=(lv1 n).1;have:i.length*zb 1<=4*zb 1:=CQ _ ⋯;have e:1+4*zb 1<=zb (1+1):=by decide
    lia
   ·have:i.length*zb 2<=20*zb 2:=CQ _ ⋯;have e:1+20*zb 2<=zb (2+1):=by decide
    lia
theorem bl3{k}:∀{row ds},ds.length=row.length->(∀(i:Nat)t d,row[i]?=AA t->ds[i]?=AA d->Pl k t d)->Pls k row ds
 |[],[],_,_=>.nil
 |[],d::ds,h,_=>by simp at h
 |t::row,[],h,_=>by simp at h
 |t::row,d::ds,h,hp=>.cons (hp 0 t d rfl rfl) (bl3 (by simpa using h) λi t' d' h1 h2=>hp (i+1) t' d' (by simpa using h1) (by simpa using h2))
structure Gd(d:Nat)(c:Kd×D):Prop where
 lv:Lv d c.1
 bd:c.1.bd 20
 th:c.2∈c.1.things
 pl:∃p,Pl c.1 c.2 p
theorem Pls.mem{k}:∀{ts ps}{t},Pls k ts ps->t∈ts->∃p,Pl k t p
 |_,_,t,.nil,h=>by cases h
 |_,_,t,.cons a b,h=>by
  rcases AK.mp h with rfl|h
  ·exact⟨_,a⟩
  ·exact b.mem h
def Gd.sub{d:Nat}{c z:Kd×D}(h:Gd d c)(i:z∈J9 c):Gd d z:=by
 obtain⟨k,t⟩:=c;obtain⟨l,b,m,p,s⟩:=h;simp only at l b m s;cases s with
 |one=>cases i
 |@l a e u p n=>
  rw[bo2,Am]at i;subst i;refine⟨l.subs' (by simp[Kd.subs]),b.1,?_,p,n⟩;simp only[Kd.things,Ap,Aq]at m
  rcases m with⟨v,j,f⟩|⟨v,j,f⟩
  ·simp only[D.tup.injEq,AY,and_true,true_and]at f;subst f;exact j
  ·simp[p5]at f
 |@r a e u p n=>
  rw[ay0,Am]at i;subst i;refine⟨l.subs' (by simp[Kd.subs]),b.2.1,?_,p,n⟩;simp only[Kd.things,Ap,Aq]at m
  rcases m with⟨v,j,f⟩|⟨v,j,f⟩
  ·simp[p5]at f
  ·simp only[D.tup.injEq,AY,and_true,true_and]at f;subst f;exact j
 |@both a e u v p q n y=>
  simp only[bo9,AK,Aa,or_false]at i;simp only[Kd.things,Be,Aq]at m;obtain⟨G,C,F,j,f⟩:=m;simp only[D.tup.injEq,AY,and_true,true_and]at f;obtain⟨rfl,rfl⟩:=f
  rcases i with rfl|rfl
  ·exact⟨l.subs' (by simp[Kd.subs]),b.1,C,p,n⟩
  ·exact⟨l.subs' (by simp[Kd.subs]),b.2.1,j,q,y⟩
 |@way a e A H x n y=>
  simp only[ax0,Aq]at i;obtain⟨g,w,rfl⟩:=i;simp only[Kd.things,Aq]at m;obtain⟨o,E,f⟩:=m;simp only[D.tup.injEq,AY,and_true,true_and]at f;subst f;exact⟨l.subs' (by simp[Kd.subs]),b.2.1,(F8 _ _ _ E).2 g w,n.mem w⟩
section
variable (T:PKs P G)
include T
def bw2{d:Nat}{c:Kd×D}(C:Gd d c)(q:∀x f,X1 st f x ((J9 c).map O5)->Kp [] st f->Q x f):sem P G (n+1) "things_within" [O5 c] st Q:=by
 obtain⟨k,t⟩:=c;obtain⟨l,b,m,p,o⟩:=C;simp only at l b m o;refine i5 T.within rfl [AA (O5 (k,t)),AD,AD] rfl ?_;unfold ak0;simp only[O5];(iterate 2 ∎);cases o with
 |one=>
  simp only[Kd.d];(iterate 2 ∎);exact λpa hpa=>f7 (q _ _ (.inr ⟨pa,rfl,hpa,f6⟩) (Kp.refl.new hpa))
 |@l a e u p i=>
  simp only[Kd.d];(iterate 4 ∎);exact λpa hpa=>f7 (q _ _ (.inr ⟨pa,rfl,hpa,f6⟩) (Kp.refl.new hpa))
 |@r a e u p i=>
  simp only[Kd.d];(iterate 4 ∎);refine λpa hpa=>f7 (q _ _ (.inr ⟨pa,rfl,hpa,?_⟩) (Kp.refl.new hpa));rw[f6];rw[ay0];rfl
 |@both a e u v p q i B=>
  simp only[Kd.d];(iterate 3 ∎);exact λpa hpa=>f7 (q _ _ (.inr ⟨pa,rfl,hpa,f6⟩) (Kp.refl.new hpa))
 |@way a e w H x i B=>
  simp only[Kd.d];(iterate 4 ∎);simp only[Kd.things,Aq]at m;obtain⟨j,A,s⟩:=m;simp only[D.tup.injEq,AY,and_true,true_and]at s;subst s;have F:=(F8 _ _ _ A).1;have E:=o7 a;have I:=Kd.bd_le b.1;refine⟨⋯,?_⟩;refine G0 (λg=>.tup [e.d,g]) (λenv=>∃x,env=[AA (.tup [.str "way",a.d,e.d]),x]) (λenv y h=>by obtain⟨x,rfl⟩:=h;exact⟨_,rfl⟩) (λenv K h=>h) (λenv y K h hk=>by
   obtain⟨x,rfl⟩:=h;rfl';exact hk) trivial _ _ _ ⟨AD,rfl⟩ ?_
  refine λpa hpa=>f7 (q _ _ (.inr ⟨pa,rfl,hpa,?_⟩) (Kp.refl.new hpa));rw[f6];simp only[ax0,O5,BH,BN,Bp]
def cm4{d:Nat}{c:Kd×D}(Z:9<=n)(S:Gd d c)(L:∀a b,c.1=.way a b->∃m,Lv m a/\a.nest<=9/\a.rk<=200/\∀k:Kd,Lv m k->k.bd 20->PlT P G (n-3) k)(g:st la=AA (.lst ds))(f:ds.length=(J9 c).length)(h:∀(i:Nat)H x,(J9 c)[i]?=AA H->ds[i]?=AA x->Pl H.1 H.2 x)(q:∀x st',Pl c.1 c.2 x->Kp [] st st'->Q x st'):sem P G (n+1) "plain_by_parts" [O5 c,.ref la] st Q:=by
 obtain⟨k,t⟩:=c;obtain⟨l,b,m,p,J⟩:=S;simp only at l b m J L q;refine i5 T.plb rfl [AA (O5 (k,t)),AA (.ref la),AD] rfl ?_;unfold aj8;simp only[O5];∎;cases J with
 |one=>
  simp only[Kd.d];(iterate 2 ∎);exact f7 (q _ _ .one Kp.refl)
 |@l a e u p o=>
  simp only[bo2,AW,BK]at f h;obtain⟨x,rfl⟩:∃x,ds=[x]:=by match ds,f with|[x],_=>exact⟨x,rfl⟩
  simp only[Kd.d];(iterate 4 ∎);rw[n8 (.inl g)];exact⟨x,rfl,f7 (q _ _ (.l (h 0 _ x rfl rfl)) Kp.refl)⟩
 |@r a e u p o=>
  simp only[ay0,AW,BK]at f h;obtain⟨x,rfl⟩:∃x,ds=[x]:=by match ds,f with|[x],_=>exact⟨x,rfl⟩
  simp only[Kd.d];(iterate 4 ∎);rw[n8 (.inl g)];exact⟨x,rfl,f7 (q _ _ (.r (h 0 _ x rfl rfl)) Kp.refl)⟩
 |@both a e u v p Y o E=>
  simp only[bo9,AW,BK]at f h;obtain⟨x,y,rfl⟩:∃x y,ds=[x,y]:=by match ds,f with|[x,y],_=>exact⟨x,y,rfl⟩
  simp only[Kd.d];(iterate 3 ∎);rw[n8 (.inl g)];refine⟨x,rfl,?_⟩;rw[n8 (.inl g)];exact⟨y,rfl,f7 (q _ _ (.both (h 0 _ x rfl rfl) (h 1 _ y rfl rfl)) Kp.refl)⟩
 |@way a e w X x o E=>
  obtain⟨N,A,z,O,C⟩:=L a e rfl;simp only[ax0,AT]at f h;have B:Pls e w ds:=bl3 f λi t' d' s e2=>h i (e,t') d' (by rw[Aj,s];rfl) e2;have F:=ac3 (ai5 _ e (Ab _)) B o;subst F;simp only[Kd.things,Aq]at m;obtain⟨I,R,s⟩:=m;simp only[D.tup.injEq,AY,and_true,true_and]at s;subst s;have W:=(F8 _ _ _ R).1;have V:=o7 a;have ca:=Kd.bd_le b.1;obtain⟨n,rfl⟩:∃k,n=k+1:=⟨n-1,⋯⟩;simp only[Kd.d];(iterate 4 ∎);have U:t5 [D.str (AV "way"),a.d,e.d] (AA 1) (AA 2)=[a].map Kd.d:=rfl;rw[U];refine⟨by rw[T.asking];rfl,by simp[HT.sIx],?_⟩;exact a72 T (Γ:=[a]) (m:=N) ⋯ (λc l1 b1=>by have:=C c l1 b1;rwa [show n+1-3=n-2 by lia]at this) (λk hk=>by rw[Am]at hk;subst hk;exact⟨b.1,A,z⟩) (by simp[nA,rks];lia) g ⋯ E λst' K=>f7 (q _ st' (.way o E) K)
def ba8{d:Nat}(B:12<=N)(j:d<=3){k:Kd}(h:Lv d k)(i:k.bd 20)(l:∀a b,Lv d (.way a b)->∃m,Lv m a/\a.nest<=9/\a.rk<=200/\∀k:Kd,Lv m k->k.bd 20->PlT P G (N-6) k):PlT P G N k:=by
 intro t p f g n A y Q q;obtain⟨n,rfl⟩:∃m,n=m+3:=⟨n-3,⋯⟩;refine i5 T.plt rfl [AA k.d,AA t] rfl ?_;∎;have z:=cr9 d j k t h i f;have w:zb d<=421:=by unfold zb;split<;>decide
 refine⟨by rw[T.mop];rfl,by rw[T.within];rfl,by rw[T.plb];rfl,?_⟩;refine bk4 T.toPM (n:=n) (T:=Kd×D) (enc:=O5) (subs:=J9) (size:=nsz) (DH:=Gd d) cc6 (λc gc c' hc'=>gc.sub hc') (F:=.fn "things_within") (M:=.fn "plain_by_parts") (show(P _).isSome=AC by rw[T.within];rfl) (show(P _).isSome=AC by rw[T.plb];rfl) (k,t) (by show tsz k t<=2000;lia) ⟨h,i,f,p,g⟩ (V:=λ_ c x _=>Pl c.1 c.2 x) (λv _=>v) (λc st' Q gc K q=>?_) (λc dn la st' Q ds gc hdn K hla hne hl hlen hv hxs q=>?_) λdn x st' hdn v K=>?_
 ·obtain⟨n,rfl⟩:∃m,n=m+1:=⟨n-1,⋯⟩;exact bw2 T gc λx st2 hx K2=>q x st2 hx K2
 ·refine cm4 T ⋯ gc (λa b e=>?_) hl hlen hv q;obtain⟨m,u,s,r,o⟩:=l a b (by rw[<-e];exact gc.lv);exact⟨m,u,s,r,λk l1 b1 t p f g m hm=>o k l1 b1 t p f g m ⋯⟩
 ·rw[ai5 _ k (Ab _) t p x g v]at q;exact f7 (q st' K)
def be9:∀(d:Nat),d<=3->∀k:Kd,Lv d k->k.bd 20->PlT P G (12+6*d) k:=by
 intro d
 induction d with
 |zero=>
  intro g k e i;exact ba8 T ⋯ g e i λa b h=>by cases h
 |succ d m=>
  intro g k e i;refine ba8 T ⋯ g e i λa b h=>?_;have f:Lv d a:=h.subs (by simp[Kd.subs]);have o:=av9 ⋯ f;have n:rkb d<=29:=by unfold rkb;split<;>decide
  have p:=f.nest;exact⟨d,f,⋯,⋯,λc lc bc=>by have:=m ⋯ c lc bc;rwa [show 12+6*(d+1)-6=12+6*d by lia]⟩
end
abbrev r9(b:Nat)(d:D):Prop:=d.lit=AC/\l8 d<=b
def r9.mono{b c:Nat}{d:D}(h:r9 b d)(hb:b<=c):r9 c d:=⟨h.1,Bd h.2 hb⟩
theorem ar6{b}:∀{l},(∀d∈l,l8 d<=b)->y6 l<=b
 |[],_=>Bx _
 |d::l,h=>by
  have:=ar6 (l:=l) λx hx=>h x (by simp[hx]);have:=h d ∎;show max (l8 d) (y6 l)<=b;lia
def L6{b}{l}(h:∀d∈l,r9 b d):r9 (b+1) (.tup l):=
 ⟨by rw[J4,P1];exact λd hd=>(h d hd).1,D9▸JN (ar6 λd hd=>(h d hd).2)⟩
def L4{b}{s}:r9 b (.str (AV s)):=⟨L3 s,Bx _⟩
def b28{b}{i}:r9 b (.int i):=⟨rfl,Bx _⟩
theorem N9:∀k:Kd,r9 (k.nest+1) k.d
 |.non=>L6 (by simp;exact L4)
 |.one=>L6 (by simp;exact L4)
 |.eith a b|.both a b|.way a b=>by
  have e:=N9 a;have c:=N9 b;refine L6 λd hd=>?_;simp only[AK,Aa,or_false]at hd;simp only[Kd.nest]
  rcases hd with rfl|rfl|rfl
  ·exact L4
  ·exact e.mono ⋯
  ·exact c.mono ⋯
abbrev ae5(X:Nat)(ls:List Lk):Prop:=∀p,.giv p∈ls->r9 X p
def au2{X:Nat}:ae5 X []:=λp hp=>by cases hp
def cb2{X:Nat}(k:1<=X):∀(m:Nat){ls:List Lk},ls.length=m->ae5 X ls->r9 (m+X) (exD i ls):=by
 intro m
 induction m with
 |zero=>
  intro ls a h;have:ls=[]:=BD a;subst this;have:r9 (0+1) (exD i []):=L6 λd hd=>by
   simp only[AK,Aa,or_false]at hd
   rcases hd with rfl|rfl
   ·exact L4
   ·exact b28
  exact this.mono ⋯
 |succ m f=>
  intro ls a h
  rcases V4 ls with rfl|⟨ls,l,rfl⟩
  ·simp at a
  have d:=f (ls:=ls) (by simpa using a) λp hp=>h p (by simp[hp]);rw[L5,show m+1+X=(m+X)+1 by lia];cases l with
  |fst|snd=>
   refine L6 λd hd=>?_;simp only[AK,Aa,or_false]at hd
   rcases hd with rfl|rfl
   ·exact L4
   ·exact d
  |giv p=>
   refine L6 λd hd=>?_;simp only[AK,Aa,or_false]at hd
   rcases hd with rfl|rfl|rfl
   ·exact L4
   ·exact d
   ·exact(h _ ∎).mono ⋯
abbrev PlN(X:Nat)(c:Kd):Prop:=∀t p,Pl c t p->r9 X p
theorem af9{X}(h:PlN X c):∀{ts ps},Pls c ts ps->∀p∈ps,r9 X p
 |_,_,.nil,p,d=>by cases d
 |_,_,.cons a b,p,d=>by
  rcases AK.mp d with rfl|d
  ·exact h _ _ a
  ·exact af9 h b p d
def bf2{d X L W:Nat}(hX:1<=X)(hW:L+X<=W)(hg:g.nest+1<=W)(hP:∀c,Lv d c->PlN X c):∀(n:Nat){asks:List Ask},rks asks<=n->(∀q∈asks,Lv d q.k/\ae5 X q.ls/\q.ls.length+q.k.nest<=L)->∀{dp:Nat}{ps p':List D}{x:D},(∀p∈ps,r9 W p)->Tr g dp asks ps x p'->r9 (n+W) x/\∀p∈p',r9 W p:=by
 have nil:∀{n dp:Nat}{ps p':List D}{x:D},(∀p∈ps,r9 W p)->Tr g dp [] ps x p'->r9 (n+W) x/\∀p∈p',r9 W p:=λ{n dp ps p' x}e t=>by
  cases t;exact⟨(e _ ∎).mono ⋯,λp m=>e p (by simp[m])⟩
 intro n
 induction n with
 |zero=>
  intro asks o f dp ps p' x e t;cases asks with
  |nil=>exact nil e t
  |cons q r=>rw[l0]at o;have:=G3 q.k;lia
 |succ n v=>
  intro asks o f dp ps p' x e t;cases asks with
  |nil=>exact nil e t
  |cons q r=>
   obtain⟨lv,ls,k⟩:=q;obtain⟨s,A,C⟩:=f ⟨lv,ls,k⟩ ∎;have E:∀q∈r,Lv d q.k/\ae5 X q.ls/\q.ls.length+q.k.nest<=L:=λq h=>f q (by simp[h]);rw[l0]at o;have pk:=G3 k;simp only at o s A C;have ex:r9 W (exD (dp-1-lv) ls):=(cb2 hX _ rfl A).mono ⋯;cases t with
   |mute h t=>
    obtain⟨z,y⟩:=v ⋯ E e t;exact⟨z.mono ⋯,y⟩
   |non=>
    refine⟨?_,e⟩;rw[show n+1+W=(n+W)+1 by lia];refine L6 λd hd=>?_;simp only[AK,Aa,or_false]at hd
    rcases hd with rfl|rfl|rfl
    ·exact L4
    ·exact(N9 g).mono ⋯
    ·exact ex.mono ⋯
   |@eith _ a b _ _ _ _ _ _ _ _ _ u t2=>
    simp only[Kd.rk]at o;simp only[Kd.nest]at C;have hA:∀c∈(Kd.eith a b).subs,c.nest<=L->∀q∈(⟨dp,[],c⟩:Ask)::r,Lv d q.k/\ae5 X q.ls/\q.ls.length+q.k.nest<=L:=λc hc F q f=>by
     rcases AK.mp f with rfl|f
     ·exact⟨s.subs' hc,au2,by simpa using F⟩
     ·exact E q f
    obtain⟨x1,x2⟩:=v (by rw[l0];simp only;lia) (hA a (by simp[Kd.subs]) ⋯) e u;obtain⟨y1,y2⟩:=v (by rw[l0];simp only;lia) (hA b (by simp[Kd.subs]) ⋯) x2 t2;refine⟨?_,y2⟩;rw[show n+1+W=(n+W)+1 by lia];refine L6 λd hd=>?_;simp only[AK,Aa,or_false]at hd
    rcases hd with rfl|rfl|rfl|rfl
    ·exact L4
    ·exact ex.mono ⋯
    ·exact x1
    ·exact y1
   |@both _ a b _ _ _ _ _ _ _ u=>
    simp only[Kd.rk]at o;simp only[Kd.nest]at C;obtain⟨z,y⟩:=v (by rw[l0,l0];simp only;lia) (λq f=>by
     simp only[AK]at f
     rcases f with rfl|rfl|f
     ·exact⟨s.subs' (by simp[Kd.subs]),λp m=>A p (by simpa using m),by simp;lia⟩
     ·exact⟨s.subs' (by simp[Kd.subs]),λp m=>A p (by simpa using m),by simp;lia⟩
     ·exact E q f) e u
    exact⟨z.mono ⋯,y⟩
   |@way _ a b _ _ _ _ gs _ _ _ w u=>
    simp only[Kd.rk]at o;simp only[Kd.nest]at C;have F:=w.len;rw[o7]at F;have G:=af9 (hP a (s.subs' (by simp[Kd.subs]))) w;obtain⟨z,y⟩:=v (by rw[P9,ab2,<-F];lia) (λq f=>by
     rcases Ap.mp f with f|f
     ·obtain⟨p,m,rfl⟩:=Aq.mp f;refine⟨s.subs' (by simp[Kd.subs]),λp' i=>?_,by simp;lia⟩
      rcases Ap.mp i with i|i
      ·exact A p' i
      ·simp only[Am,Lk.giv.injEq]at i;subst i;exact G _ m
     ·exact E q f) e u
    exact⟨z.mono ⋯,y⟩
abbrev Xb:Nat->Nat
 |0=>2
 |d+1=>1+rkb d+(Xb d+d+1)
def bh6:∀(d:Nat),d<=3->∀k,Lv d k->PlN (Xb d) k:=by
 have N:∀d,2<=Xb d:=by
  intro d;cases d with
  |zero=>exact Ab _
  |succ d=>
   simp only[Xb];lia
 have one:r9 1 (.tup [.str (AV "star")]):=L6 λd n=>by simp only[Am]at n;subst n;exact L4
 have e:∀{b:Nat}{s:String}{x y:D},r9 b x->r9 b y->r9 (b+1) (.tup [.str (AV s),x,y]):=λ{b s x y}A J=>L6 λd n=>by
  simp only[AK,Aa,or_false]at n
  rcases n with rfl|rfl|rfl
  ·exact L4
  ·exact A
  ·exact J
 intro d
 induction d with
 |zero=>
  intro _ k i t p m;cases i with
  |one=>cases m;exact one.mono ∅
  |two=>
   cases m with
   |l h=>cases h;exact e (N9 .one) one
   |r h=>cases h;exact e (N9 .one) one
 |succ d j=>
  intro n k i t p m;have O:=N d;cases m with
  |one=>exact one.mono (by simp only[Xb];lia)
  |@l a b u p h=>
   have K:=(i.subs (c:=b) (by simp[Kd.subs])).nest;exact(e (b:=Xb d+d) ((N9 b).mono ⋯) ((j ⋯ a (i.subs (by simp[Kd.subs])) _ _ h).mono ⋯)).mono (by simp only[Xb];lia)
  |@r a b u p h=>
   have K:=(i.subs (c:=a) (by simp[Kd.subs])).nest;exact(e (b:=Xb d+d) ((N9 a).mono ⋯) ((j ⋯ b (i.subs (by simp[Kd.subs])) _ _ h).mono ⋯)).mono (by simp only[Xb];lia)
  |@both a b u v p q C M=>
   exact(e (j ⋯ a (i.subs (by simp[Kd.subs])) _ _ C) (j ⋯ b (i.subs (by simp[Kd.subs])) _ _ M)).mono (by simp only[Xb];lia)
  |@way a b H Q x C G=>
   have z:=i.subs (c:=a) (by simp[Kd.subs]);have E:=i.subs (c:=b) (by simp[Kd.subs]);have I:=z.nest;have R:=E.nest;have P:=av9 ⋯ z;have B:=af9 (j ⋯ b E) C;have A:=(bf2 (d:=d) (X:=Xb d) (L:=d+1) (W:=Xb d+d+1) (g:=b) ⋯ ⋯ ⋯ (λc lc=>j ⋯ c lc) a.rk (asks:=[⟨0,[],a⟩]) (by simp[rks]) (λq hq=>by
    rw[Am]at hq;subst hq;exact⟨z,au2,by simpa using I⟩) (λp m=>(B p m).mono ⋯) G).1
   exact(e (b:=rkb d+(Xb d+d+1)) ((N9 a).mono ⋯) (A.mono ⋯)).mono (by simp only[Xb];lia)
section
variable (T:PKs P G)
include T
def by8{k:Kd}{o:AH}{r:D}(A:31<=n)(u:Lv 3 k)(z:k.bd 20)(g:∀c∈Γ,Lv 2 c/\c.bd 20)(w:rks (nA Γ)<=200)(h:st o=AA (.lst ts))(B:ts.length<=1000)(s:∀t∈ts,t∈k.things)(i:Pls k ts ps)(t:Tr k Γ.length (nA Γ) ps r p')(q:∀b,Kp [] st b->Q r b):sem P G (n+1) "plain_table" [.tup (Γ.map Kd.d),k.d,.ref o] st Q:=by
 obtain⟨n,rfl⟩:∃m,n=m+1:=⟨n-1,⋯⟩;refine i5 T.pltab rfl [AA (.tup (Γ.map Kd.d)),AA k.d,AA (.ref o)] rfl ?_;∎;refine⟨by rw[T.asking];rfl,_,.inl h,⋯,?_⟩;have v:=i.len;refine F9 (λl acc env' b=>∃(f a:List D)(x:Option D),ps=f++a/\Pls k l a/\(∀t∈l,t∈k.things)/\acc=f/\env'=[AA k.d,x]/\Kp [] st b) ?_ ?_ _ _ _ _ ⟨[],ps,AD,rfl,i,s,rfl,rfl,Kp.refl⟩
 ·rintro acc env' b ⟨f,a,x,e,j,_,rfl,rfl,K⟩;cases j;rw[Ao]at e;subst e;refine⟨.inl (K.at' h ∎),λp i=>?_⟩;refine a72 T (m:=2) ⋯ (λc lc bc t p ht i m hm=>be9 T 2 ⋯ c lc bc t p ht i m ⋯) (λc hc=>⟨(g c hc).2,(g c hc).1,by have:=(g c hc).1.nest;lia⟩) w f6 ⋯ t λst2 K2=>f7 (q st2 ((K.new i).trans K2))
 ·rintro d ds acc env' b ih ⟨f,a,x,e,j,hm,rfl,rfl,K⟩;refine⟨.inl (K.at' h ∎),?_⟩;cases j with
  |@cons _ _ p _ a y j=>
  rfl';exact⟨by rw[T.plt];rfl,be9 T 3 ⋯ k u z _ _ (hm _ ∎) y _ ⋯ _ _ λst2 K2=>ih _ _ _ ⟨_,a,_,by rw[e,BV];rfl,j,λt ht=>hm t (by simp[ht]),rfl,rfl,K.trans K2⟩⟩
end
def bn0:∀(n:Nat){asks:List Ask}(hn:rks asks<=n){g:Kd}{dp:Nat}{ps qs p1 q1:List D}{x:D},Tr g dp asks ps x p1->Tr g dp asks qs x q1->∃c,ps=c++p1/\qs=c++q1:=by
 intro n
 induction n with
 |zero=>
  intro asks hn g dp ps qs p1 q1 x t u;cases asks with
  |nil=>cases t;cases u;exact⟨[x],rfl,rfl⟩
  |cons q r=>rw[l0]at hn;have:=G3 q.k;lia
 |succ n ih=>
  intro asks hn g dp ps qs p1 q1 x t u;cases asks with
  |nil=>cases t;cases u;exact⟨[x],rfl,rfl⟩
  |cons q r=>
   obtain⟨lv,ls,k⟩:=q;rw[l0]at hn;have pk:=G3 k;simp only at hn
   by_cases hm:k.mute=AC
   ·exact ih ⋯ (J6 k hm t) (J6 k hm u)
   have t:=t.inv hm;have u:=u.inv hm;cases k with
   |one=>exact t.elim
   |non=>exact⟨[],t.2.symm,u.2.symm⟩
   |eith a b=>
    obtain⟨_,_,_,rfl,t1,t2⟩:=t;obtain⟨_,_,_,e,u1,u2⟩:=u;cases e;simp only[Kd.rk]at hn;obtain⟨c1,rfl,rfl⟩:=ih (by rw[l0];simp only;lia) t1 u1;obtain⟨c2,rfl,rfl⟩:=ih (by rw[l0];simp only;lia) t2 u2;exact⟨c1++c2,by rw[BV],by rw[BV]⟩
   |both a b=>
    simp only[Kd.rk]at hn;exact ih (by rw[l0,l0];simp only;lia) t u
   |way a b=>
    obtain⟨gs,g1,t1⟩:=t;obtain⟨_,g2,u1⟩:=u;have e:=ac3 (ai5 _ a (Ab _)) g1 g2;subst e;simp only[Kd.rk]at hn;have hl:=g1.len;rw[o7]at hl;exact ih (by rw[P9,ab2,<-hl];lia) t1 u1
theorem au1{k}(h:∀t u p,Pl k t p->Pl k u p->t=u):∀{ts us ps},Pls k ts ps->Pls k us ps->ts=us
 |_,_,[],a,b=>by cases a;cases b;rfl
 |_,_,p::ps,a,b=>by
  cases a with
  |cons g f=>cases b with
   |cons e d=>rw[h _ _ _ g e,au1 h f d]
def c08:∀(n:Nat)(k:Kd),k.size<=n->∀t u p,Pl k t p->Pl k u p->t=u:=by
 intro n
 induction n with
 |zero=>intro k h;have:=R9 k;lia
 |succ n y=>
  intro k F t u p z g;have e:∀c∈k.subs,∀t u p,Pl c t p->Pl c u p->t=u:=λc hc=>y c (by have:=R9 k;have:=W5 Kd.size hc;lia);cases z with
  |one=>cases g;rfl
  |l a=>cases g with|l b=>rw[e _ (by simp[Kd.subs]) _ _ _ a b]
  |r a=>cases g with|r b=>rw[e _ (by simp[Kd.subs]) _ _ _ a b]
  |both a c=>cases g with|both b d=>rw[e _ (by simp[Kd.subs]) _ _ _ a b,e _ (by simp[Kd.subs]) _ _ _ c d]
  |@way a b v E x B s=>cases g with
   |way A q=>
    obtain⟨c,D,C⟩:=bn0 _ (Ab _) s q;subst D;subst C;rw[au1 (e b (by simp[Kd.subs])) B A]
abbrev dr:Kd->D->D
 |.eith a b,d=>match d with
  |.tup [.str s,t]=>.tup [.str s,if s="l" then dr a t else dr b t]
  |d=>d
 |.both a b,d=>match d with
  |.tup [w,t,u]=>.tup [w,dr a t,dr b u]
  |d=>d
 |.way a b,d=>match d with
  |.tup [w,.tup row]=>.tup [w,a.d,.tup (row.map λg=>dr b g)]
  |d=>d
 |_,d=>d
def Z3{t}:dr (.eith a b) (.tup [.str "l",t])=.tup [.str "l",dr a t]:=rfl
def Z9{t}:dr (.eith a b) (.tup [.str "r",t])=.tup [.str "r",dr b t]:=rfl
def Y6{t:D}:dr (.both a b) (.tup [.str "p",t,u])=.tup [.str "p",dr a t,dr b u]:=by simp[dr]
def ad9:dr (.way a b) (.tup [.str "w",.tup row])=.tup [.str "w",a.d,.tup (row.map (dr b))]:=rfl
theorem Q1:∀(k:Kd)(t:D),t∈k.things->(dr k t).lit=AC
 |.non,t,h=>by simp[Kd.things]at h
 |.one,t,h=>by simp only[Kd.things,Am]at h;subst h;rfl
 |.eith a b,t,h=>by
  simp only[Kd.things,Ap,Aq]at h
  rcases h with⟨u,c,rfl⟩|⟨u,c,rfl⟩
  ·rw[Z3,J4,D2,D2,N7,L3,Q1 a u c];rfl
  ·rw[Z9,J4,D2,D2,N7,L3,Q1 b u c];rfl
 |.both a b,t,h=>by
  simp only[Kd.things,Be,Aq]at h;obtain⟨u,c,v,i,rfl⟩:=h;rw[Y6,J4,D2,D2,D2,N7,L3,Q1 a u c,Q1 b v i];rfl
 |.way a b,t,h=>by
  simp only[Kd.things,Aq]at h;obtain⟨d,j,rfl⟩:=h;have f:=(F8 _ _ _ j).2;have e:D.lits (d.map (dr b))=AC:=P1.mpr λd hd=>by
   obtain⟨g,l,rfl⟩:=Aq.mp hd;exact Q1 b g (f g l)
  rw[ad9,J4,D2,D2,D2,N7,L3,(N9 a).1,J4,e];rfl
structure PK62(P:i9)(G:Gs):Prop extends PKs P G where
 dressed:P "_law_dressed"=AA U9
 bare:P "_law_bare"=AA V0
 told:P "_law_told"=AA F6
 table:P "_law_table"=AA al7
section
variable (T:PK62 P G)
include T
def a57:∀(k:Kd)(t:D),k.bd 100->t∈k.things->∀{n:Nat}{st:Sto}{Q:DK},k.nest+1<=n->(∀c,Kp [] st c->Q (dr k t) c)->sem P G n "_law_dressed" [k.d,t] st Q:=by
 intro k
 induction k with
 |non=>intro t _ f;simp[Kd.things]at f
 |one=>
  intro t _ f n st Q o q;simp only[Kd.things,Am]at f;subst f;obtain⟨n,rfl⟩:∃m,n=m+1:=⟨n-1,⋯⟩;refine i5 T.dressed rfl [AA Kd.one.d,AA (.tup [])] rfl ?_;unfold U9;simp only[Kd.d];(iterate 4 ∎);exact f7 (q st Kp.refl)
 |eith a b i h=>
  intro t j f n st Q o q;simp only[Kd.nest]at o;obtain⟨n,rfl⟩:∃m,n=m+1:=⟨n-1,⋯⟩;refine i5 T.dressed rfl [AA (Kd.eith a b).d,AA t] rfl ?_;unfold U9;simp only[Kd.d];simp only[Kd.things,Ap,Aq]at f
  rcases f with⟨u,p,rfl⟩|⟨u,p,rfl⟩
  ·rw[Z3]at q;(iterate 2 ∎);exact⟨by rw[T.dressed];rfl,a.d,rfl,i u j.1 p ⋯ λst1 K1=>f7 (q st1 K1)⟩
  ·rw[Z9]at q;(iterate 2 ∎);exact⟨by rw[T.dressed];rfl,b.d,rfl,h u j.2.1 p ⋯ λst1 K1=>f7 (q st1 K1)⟩
 |both a b i h=>
  intro t j f n st Q o q;simp only[Kd.nest]at o;obtain⟨n,rfl⟩:∃m,n=m+1:=⟨n-1,⋯⟩;refine i5 T.dressed rfl [AA (Kd.both a b).d,AA t] rfl ?_;unfold U9;simp only[Kd.d];simp only[Kd.things,Be,Aq]at f;obtain⟨u,p,v,C,rfl⟩:=f;rw[Y6]at q;(iterate 3 ∎);exact⟨by rw[T.dressed];rfl,i u j.1 p ⋯ λst1 K1=>⟨by rw[T.dressed];rfl,h v j.2.1 C ⋯ λst2 K2=>f7 (q st2 (K1.trans K2))⟩⟩
 |way a b i h=>
  intro t j f n st Q o q;simp only[Kd.nest]at o;obtain⟨n,rfl⟩:∃m,n=m+1:=⟨n-1,⋯⟩;refine i5 T.dressed rfl [AA (Kd.way a b).d,AA t] rfl ?_;unfold U9;simp only[Kd.d];simp only[Kd.things,Aq]at f;obtain⟨r,E,rfl⟩:=f;obtain⟨H,z⟩:=F8 _ _ _ E;have F:=o7 a;have I:=Kd.bd_le j.1;rw[ad9]at q;(iterate 4 ∎);refine⟨⋯,?_⟩;refine F9 (λl acc env' c=>∃(g:List D)(x:Option D),r=g++l/\acc=g.map (dr b)/\env'=[AA (.tup [.str "way",a.d,b.d]),x]/\Kp [] st c) ?_ ?_ _ _ _ _ ⟨[],AD,rfl,rfl,rfl,Kp.refl⟩
  ·rintro acc env' c ⟨g,x,e,rfl,rfl,K⟩;rw[Ao]at e;subst e;refine⟨trivial,λp hp=>?_⟩;rfl';exact f7 (q _ (K.new hp))
  ·rintro d ds acc env' c ih ⟨g,x,e,rfl,rfl,K⟩;refine⟨trivial,?_⟩;rfl';exact⟨by rw[T.dressed];rfl,h d j.2.1 (z d (by rw[e];simp)) ⋯ λst2 K2=>ih _ _ _ ⟨g++[d],_,by rw[e];simp,∎,rfl,K.trans K2⟩⟩
def bf3:∀(k:Kd)(t:D),k.bd 100->t∈k.things->∀{n:Nat}{st:Sto}{Q:DK},k.nest+1<=n->(∀i,Kp [] st i->Q t i)->sem P G n "_law_bare" [dr k t] st Q:=by
 have o:∀{x:D}{st:Sto}{Q:DK},x.lit=AC->∀b:Bool,(b=AC↔x=.tup [])->Q (.bl b) st->o8 .Eq x (.tup []) st Q:=λ{x st Q}E b F q=>by
  rw[c43];refine⟨ag2 x E,rfl,?_,?_⟩
  ·have:EW (l8 x) (l8 (.tup []))<=l8 (.tup []):=Gv _ _;have:l8 (.tup [])=1:=by rw[D9];rfl
   lia
  ·have e:deq x (.tup [])=b:=by
    by_cases s:x=.tup []
    ·rw[F.mpr s,s];exact ba6 rfl
    ·cases b with
     |true=>exact absurd (F.mp rfl) s
     |false=>exact ar3 E rfl s
   rw[e];exact q
 intro k
 induction k with
 |non=>intro t _ h;simp[Kd.things]at h
 |one=>
  intro t _ h n st Q y q;simp only[Kd.things,Am]at h;subst h;obtain⟨n,rfl⟩:∃m,n=m+1:=⟨n-1,⋯⟩;refine i5 T.bare rfl [AA (.tup [])] rfl ?_;unfold V0;∎;refine o rfl AC ∎ ⟨_,rfl,?_⟩;rw[if_pos rfl];∎;exact f7 (q st Kp.refl)
 |eith a b r j=>
  intro t w h n st Q y q;simp only[Kd.nest]at y;have c:=Q1 _ t h;obtain⟨n,rfl⟩:∃m,n=m+1:=⟨n-1,⋯⟩;refine i5 T.bare rfl [AA (dr (.eith a b) t)] rfl ?_;unfold V0;simp only[Kd.things,Ap,Aq]at h
  rcases h with⟨u,A,rfl⟩|⟨u,A,rfl⟩
  ·rw[Z3]at c ⊢;∎;refine o c AF ∎ ⟨_,rfl,?_⟩;rw[if_neg ∅];(iterate 2 ∎);have C:t5 [D.str (AV "l"),dr a u] (AA 1) AD=[dr a u]:=by rw[show(1:Int)=((1:Nat):Int) from rfl,aa8];rfl
   have B:t5 [D.str (AV "l"),dr a u] AD (AA 1)=[.str "l"]:=by rw[show(1:Int)=((1:Nat):Int) from rfl,au3];rfl
   rw[C,B];refine⟨by simp[HT.sIx],by simp[HT.sIx],∎,?_⟩;rw[R8,W9];refine⟨trivial,?_⟩;rfl';refine⟨by rw[T.bare];rfl,_,rfl,r u w.1 A ⋯ λst1 K1=>?_⟩;rw[V8];exact⟨trivial,λp hp=>⟨p9 ∎,f7 (q _ (K1.new hp))⟩⟩
  ·rw[Z9]at c ⊢;∎;refine o c AF ∎ ⟨_,rfl,?_⟩;rw[if_neg ∅];(iterate 2 ∎);have C:t5 [D.str (AV "r"),dr b u] (AA 1) AD=[dr b u]:=by rw[show(1:Int)=((1:Nat):Int) from rfl,aa8];rfl
   have B:t5 [D.str (AV "r"),dr b u] AD (AA 1)=[.str "r"]:=by rw[show(1:Int)=((1:Nat):Int) from rfl,au3];rfl
   rw[C,B];refine⟨by simp[HT.sIx],by simp[HT.sIx],∎,?_⟩;rw[R8,W9];refine⟨trivial,?_⟩;rfl';refine⟨by rw[T.bare];rfl,_,rfl,j u w.2.1 A ⋯ λst1 K1=>?_⟩;rw[V8];exact⟨trivial,λp hp=>⟨p9 ∎,f7 (q _ (K1.new hp))⟩⟩
 |both a b r j=>
  intro t w h n st Q y q;simp only[Kd.nest]at y;have c:=Q1 _ t h;obtain⟨n,rfl⟩:∃m,n=m+1:=⟨n-1,⋯⟩;refine i5 T.bare rfl [AA (dr (.both a b) t)] rfl ?_;unfold V0;simp only[Kd.things,Be,Aq]at h;obtain⟨u,A,v,S,rfl⟩:=h;rw[Y6]at c ⊢;∎;refine o c AF ∎ ⟨_,rfl,?_⟩;rw[if_neg ∅];(iterate 2 ∎);have C:t5 [D.str (AV "p"),dr a u,dr b v] (AA 1) AD=[dr a u,dr b v]:=by rw[show(1:Int)=((1:Nat):Int) from rfl,aa8];rfl
  have B:t5 [D.str (AV "p"),dr a u,dr b v] AD (AA 1)=[.str "p"]:=by rw[show(1:Int)=((1:Nat):Int) from rfl,au3];rfl
  rw[C,B];refine⟨by simp[HT.sIx],by simp[HT.sIx],∎,?_⟩;rw[R8,W9];refine⟨trivial,?_⟩;rfl';refine⟨by rw[T.bare];rfl,_,rfl,r u w.1 A ⋯ λst1 K1=>?_⟩;rw[R8,W9];refine⟨trivial,?_⟩;rfl';refine⟨by rw[T.bare];rfl,_,rfl,j v w.2.1 S ⋯ λst2 K2=>?_⟩;rw[V8];exact⟨trivial,λp hp=>⟨p9 ∎,f7 (q _ ((K1.trans K2).new hp))⟩⟩
 |way a b r j=>
  intro t w h n st Q y q;simp only[Kd.nest]at y;have c:=Q1 _ t h;obtain⟨n,rfl⟩:∃m,n=m+1:=⟨n-1,⋯⟩;refine i5 T.bare rfl [AA (dr (.way a b) t)] rfl ?_;unfold V0;simp only[Kd.things,Aq]at h;obtain⟨z,U,rfl⟩:=h;obtain⟨W,M⟩:=F8 _ _ _ U;have V:=o7 a;have X:=Kd.bd_le w.1;rw[ad9]at c ⊢;∎;refine o c AF ∎ ⟨_,rfl,?_⟩;rw[if_neg ∅];(iterate 2 ∎);refine⟨by rw[AT];lia,?_⟩;refine F9 (λl acc env' i=>∃(p f:List D)(x:Option D),z=p++f/\l=f.map (dr b)/\acc=p/\env'=[x]/\Kp [] st i) ?_ ?_ _ _ _ _ ⟨[],z,AD,rfl,rfl,rfl,rfl,Kp.refl⟩
  ·rintro acc env' i ⟨p,f,x,e,el,rfl,rfl,K⟩;have:f=[]:=by simpa using el.symm
   subst this;rw[Ao]at e;subst e;refine⟨trivial,λp hp=>?_⟩;rfl';exact f7 (q _ (K.new hp))
  ·rintro d ds acc env' i ih ⟨p,f,x,e,el,rfl,rfl,K⟩;refine⟨trivial,?_⟩;cases f with
   |nil=>simp at el
   |cons g f=>
    simp only[AZ,AY]at el;obtain⟨rfl,rfl⟩:=el;rfl';exact⟨by rw[T.bare];rfl,j g w.2.1 (M g (by rw[e];simp)) ⋯ λst2 K2=>ih _ _ _ ⟨_,f,_,by rw[e,BV];rfl,rfl,rfl,rfl,K.trans K2⟩⟩
end
abbrev o6(P:i9)(G:Gs)(N:Nat)(x:D)(row:List D)(v:D):Prop:=∀n,N<=n->∀st(Q:DK),(∀st',Kp [] st st'->Q v st')->sem P G n "_law_told" [x,.tup row] st Q
def o6.mono{M}(h:o6 P G N x row v)(hl:N<=M):o6 P G M x row v:=λn hn=>h n (Bd hl hn)
def b97(q:Q (.str "l") st):ixR (.str "left") (.int 0) st Q:=⟨108,∅,rfl,q⟩
def b22(q:Q (.str "r") st):ixR (.str "right") (.int 0) st Q:=⟨114,∅,rfl,q⟩
section
variable (T:PK62 P G)
include T
def ck0(h:row[i]?=AA v):o6 P G 1 (.tup [.str "name",.int i]) row v:=by
 intro n hn st Q q;obtain⟨n,rfl⟩:∃m,n=m+1:=⟨n-1,⋯⟩;refine i5 T.told rfl [AA (.tup [.str "name",.int i]),AA (.tup row),AD,AD,AD] rfl ?_;unfold F6;(iterate 3 ∎);exact⟨v,by rw[E1];exact h,f7 (q st Kp.refl)⟩
def as9:o6 P G 1 (.tup [.str "star"]) row (.tup []):=by
 intro n hn st Q q;obtain⟨n,rfl⟩:∃m,n=m+1:=⟨n-1,⋯⟩;refine i5 T.told rfl [AA (.tup [.str "star"]),AA (.tup row),AD,AD,AD] rfl ?_;(iterate 4 ∎);exact f7 (q st Kp.refl)
def cd8{w:D}(b:o6 P G N x row v)(a:o6 P G N y row w):o6 P G (N+1) (.tup [.str "pair",x,y]) row (.tup [.str "p",v,w]):=by
 intro n d c Q q;obtain⟨n,rfl⟩:∃m,n=m+1:=⟨n-1,⋯⟩;refine i5 T.told rfl [AA (.tup [.str "pair",x,y]),AA (.tup row),AD,AD,AD] rfl ?_;(iterate 5 ∎);exact⟨by rw[T.told];rfl,b n ⋯ _ _ λst1 K1=>⟨by rw[T.told];rfl,a n ⋯ _ _ λst2 K2=>f7 (q st2 (K1.trans K2))⟩⟩
def bd0{b:D}(a:o6 P G N x row v):o6 P G (N+1) (.tup [.str "left",b,x]) row (.tup [.str "l",v]):=by
 intro n d c Q q;obtain⟨n,rfl⟩:∃m,n=m+1:=⟨n-1,⋯⟩;refine i5 T.told rfl [AA (.tup [.str "left",b,x]),AA (.tup row),AD,AD,AD] rfl ?_;(iterate 6 ∎);exact b97 ⟨by rw[T.told];rfl,a n ⋯ _ _ λst1 K1=>f7 (q st1 K1)⟩
def a99{b:D}(a:o6 P G N x row v):o6 P G (N+1) (.tup [.str "right",b,x]) row (.tup [.str "r",v]):=by
 intro n d c Q q;obtain⟨n,rfl⟩:∃m,n=m+1:=⟨n-1,⋯⟩;refine i5 T.told rfl [AA (.tup [.str "right",b,x]),AA (.tup row),AD,AD,AD] rfl ?_;(iterate 6 ∎);exact b22 ⟨by rw[T.told];rfl,a n ⋯ _ _ λst1 K1=>f7 (q st1 K1)⟩
def b21{w:D}(a:o6 P G N e row (.tup [w,v,u])):o6 P G (N+1) (.tup [.str "first",e]) row v:=by
 intro n c b Q q;obtain⟨n,rfl⟩:∃m,n=m+1:=⟨n-1,⋯⟩;refine i5 T.told rfl [AA (.tup [.str "first",e]),AA (.tup row),AD,AD,AD] rfl ?_;(iterate 7 ∎);refine⟨by rw[T.told];rfl,a n ⋯ _ _ λst1 K1=>?_⟩;(iterate 2 ∎);exact⟨v,rfl,f7 (q st1 K1)⟩
def b00{w:D}(a:o6 P G N e row (.tup [w,v,u])):o6 P G (N+1) (.tup [.str "second",e]) row u:=by
 intro n c b Q q;obtain⟨n,rfl⟩:∃m,n=m+1:=⟨n-1,⋯⟩;refine i5 T.told rfl [AA (.tup [.str "second",e]),AA (.tup row),AD,AD,AD] rfl ?_;(iterate 7 ∎);refine⟨by rw[T.told];rfl,a n ⋯ _ _ λst1 K1=>?_⟩;(iterate 2 ∎);exact⟨u,rfl,f7 (q st1 K1)⟩
def bh5{w:D}{s:String}(d:row.length<=1000)(b:o6 P G N e row (.tup [.str s,v]))(a:s="l"/\o6 P G N x (v::row) w\/s="r"/\o6 P G N y (v::row) w):o6 P G (N+1) (.tup [.str "case",e,x,y]) row w:=by
 intro n f c Q q;obtain⟨n,rfl⟩:∃m,n=m+1:=⟨n-1,⋯⟩;refine i5 T.told rfl [AA (.tup [.str "case",e,x,y]),AA (.tup row),AD,AD,AD] rfl ?_;(iterate 7 ∎);refine⟨by rw[T.told];rfl,b n ⋯ _ _ λst1 K1=>?_⟩;(iterate 4 ∎)
 rcases a with⟨rfl,a⟩|⟨rfl,a⟩
 ·exact⟨by rw[T.told];rfl,x,rfl,p9 ⋯,a n ⋯ _ _ λst2 K2=>f7 (q st2 (K1.trans K2))⟩
 ·exact⟨by rw[T.told];rfl,y,rfl,p9 ⋯,a n ⋯ _ _ λst2 K2=>f7 (q st2 (K1.trans K2))⟩
def ca9{j:Nat}{p t:D}{vs:List D}(r:a.nest+2<=N)(c:a.bd 100)(f:a.nest<=20)(k:o6 P G N e row (.tup [.str "w",a.d,.tup vs]))(h:o6 P G N p row (dr a t))(b:a.things[j]?=AA t)(g:vs[j]?=AA v):o6 P G (N+1) (.tup [.str "give",e,p]) row v:=by
 intro n o l Q q;obtain⟨n,rfl⟩:∃m,n=m+1:=⟨n-1,⋯⟩;refine i5 T.told rfl [AA (.tup [.str "give",e,p]),AA (.tup row),AD,AD,AD] rfl ?_;unfold F6;(iterate 7 ∎);refine⟨by rw[T.told];rfl,k n ⋯ _ _ λst1 K1=>?_⟩;(iterate 4 ∎);have i:t∈a.things:=At b;refine⟨by rw[T.lthings];rfl,ag6 T.toPKs a ⋯ c λta st2 hta0 hta K2=>?_⟩;refine⟨⟨_,.inl hta⟩,by rw[T.bare];rfl,by rw[T.told];rfl,h n ⋯ _ _ λst3 K3=>?_⟩;refine bf3 T a t c i ⋯ λst4 K4=>?_;refine cw8 ((K3.trans K4).at' hta ∎) f b ?_;rfl';exact⟨v,by rw[E1];exact g,f7 (q st4 (K1.trans (K2.trans (K3.trans K4))))⟩
def cx2{vs:List D}(C:a.nest+2<=N)(r:a.bd 100)(A:row.length<=1000)(u:vs.length=a.things.length)(w:∀(j:Nat)t v,a.things[j]?=AA t->vs[j]?=AA v->o6 P G N x (dr a t::row) v):o6 P G (N+1) (.tup [.str "way",a.d,x]) row (.tup [.str "w",a.d,.tup vs]):=by
 intro n B z Q q;obtain⟨n,rfl⟩:∃m,n=m+1:=⟨n-1,⋯⟩;refine i5 T.told rfl [AA (.tup [.str "way",a.d,x]),AA (.tup row),AD,AD,AD] rfl ?_;have y:=o7 a;have E:=Kd.bd_le r;(iterate 7 ∎);refine⟨by rw[T.lthings];rfl,ag6 T.toPKs a ⋯ r λta st1 hta0 hta K1=>?_⟩;rfl';refine⟨_,.inl hta,⋯,?_⟩;refine F9 (λl acc env' st'=>∃(b:List D)(f:Option D),a.things=b++l/\acc=b.map (dr a)/\env'=[AA (.tup [.str "way",a.d,x]),f]/\Kp [] st1 st') ?_ ?_ _ _ _ _ ⟨[],AD,rfl,rfl,rfl,Kp.refl⟩
 ·rintro acc env' st2 ⟨b,f,e,rfl,rfl,K2⟩;rw[Ao]at e;subst e;refine⟨.inl (K2.at' hta ∎),λsa hsa=>?_⟩;have s:=(K1.trans K2).new (o:=.lst (a.things.map (dr a))) hsa;∎;refine⟨_,.inl f6,by rw[AT];lia,?_⟩;refine F9 (λl acc env' st'=>∃(b c h g:List D)(f:Option D),a.things=b++c/\l=c.map (dr a)/\vs=h++g/\h.length=b.length/\acc=h/\env'=[AA (.tup [.str "way",a.d,x]),AA (.tup row),f]/\Kp [] (c9 st2 sa (.lst (a.things.map (dr a)))) st') ?_ ?_ _ _ _ _ ⟨[],a.things,[],vs,AD,rfl,rfl,rfl,rfl,rfl,rfl,Kp.refl⟩
  ·rintro acc env' st4 ⟨b,c,h,g,f,e,el,ev,hlp,rfl,rfl,K4⟩;have:c=[]:=by simpa using el.symm
   subst this;rw[Ao]at e;have:g=[]:=by
    have k:=congrArg CB ev;rw[Ac,u,e]at k;exact BD ⋯
   subst this;rw[Ao]at ev;subst ev;refine⟨.inl (K4.at' f6 ∎),λp hp=>?_⟩;rfl';exact f7 (q _ ((s.trans K4).new hp))
  ·rintro d ds acc env' st4 ih ⟨b,c,h,g,f,e,el,ev,hlp,rfl,rfl,K4⟩;refine⟨.inl (K4.at' f6 ∎),?_⟩;cases c with
   |nil=>simp at el
   |cons t c=>
    simp only[AZ,AY]at el;obtain⟨rfl,rfl⟩:=el;cases g with
    |nil=>
     have k:=congrArg CB ev;rw[Ao,u,e]at k;simp at k;lia
    |cons v g=>
     rfl';refine⟨by rw[T.told];rfl,p9 ⋯,w b.length t v (by rw[e];simp) (by rw[ev,<-hlp];simp) n ⋯ _ _ λst5 K5=>ih _ _ _ ⟨b++[t],c,_,g,_,by rw[e];simp,rfl,by rw[ev,BV];rfl,by simp[hlp],rfl,rfl,K4.trans K5⟩⟩
 ·rintro d ds acc env' st2 ih ⟨b,f,e,rfl,rfl,K2⟩;refine⟨.inl (K2.at' hta ∎),?_⟩;rfl';exact⟨by rw[T.dressed];rfl,a57 T a d r (by rw[e];simp) ⋯ λst3 s=>ih _ _ _ ⟨b++[d],_,by rw[e];simp,∎,rfl,K2.trans s⟩⟩
end
inductive PathV(d:Nat)(k0:Kd)(v0:D):List Lk->Kd->D->Prop where
 |nil:PathV d k0 v0 [] k0 v0
 |fst {ls:List Lk} {a b:Kd} {t u:D}:PathV d k0 v0 ls (.both a b) (.tup [.str "p",t,u])->PathV d k0 v0 (ls++[.fst]) a t
 |snd {ls:List Lk} {a b:Kd} {t u:D}:PathV d k0 v0 ls (.both a b) (.tup [.str "p",t,u])->PathV d k0 v0 (ls++[.snd]) b u
 |giv {ls:List Lk} {a b:Kd} {row:List D} {t p v:D} {j:Nat}:PathV d k0 v0 ls (.way a b) (.tup [.str "w",.tup row])->Lv d a->a.bd 20->a.things[j]?=AA t->Pl a t p->row[j]?=AA v->PathV d k0 v0 (ls++[.giv p]) b v
abbrev bn4(d:Nat)(row:List D)(dp:Nat)(q:Ask)(v:D):Prop:=q.lv<dp/\∃k0 v0,row[dp-1-q.lv]?=AA (dr k0 v0)/\PathV d k0 v0 q.ls q.k v
abbrev Holds(d:Nat)(row:List D)(dp:Nat):List Ask->List D->Prop
 |[],[]=>True
 |q::r,v::l=>bn4 d row dp q v/\Holds d row dp r l
 |_,_=>False
theorem Holds.app{d}:∀{qs r}{l m},Holds d row dp qs l->Holds d row dp r m->Holds d row dp (qs++r) (l++m)
 |[],r,[],m,_,h=>h
 |[],r,v::l,m,h,_=>h.elim
 |q::qs,r,[],m,h,_=>h.elim
 |q::qs,r,v::l,m,h,h'=>⟨h.1,Holds.app h.2 h'⟩
theorem Holds.push{d}:∀{qs}{l},Holds d row dp qs l->Holds d (x::row) (dp+1) qs l
 |[],[],_=>trivial
 |[],v::l,h=>h.elim
 |q::qs,[],h=>h.elim
 |q::qs,v::l,h=>by
  obtain⟨⟨g,b,a,f,e⟩,c⟩:=h;refine⟨⟨⋯,b,a,?_,e⟩,Holds.push c⟩;rwa[show dp+1-1-q.lv=dp-1-q.lv+1 by lia]
theorem a88{d:Nat}{f:D->Ask}:∀{gs vs:List D},gs.length=vs.length->(∀(j:Nat)p v,gs[j]?=AA p->vs[j]?=AA v->bn4 d row dp (f p) v)->Holds d row dp (gs.map f) vs
 |[],[],_,_=>trivial
 |[],v::vs,h,_=>by simp at h
 |p::gs,[],h,_=>by simp at h
 |p::gs,v::vs,h,hp=>⟨hp 0 p v rfl rfl,a88 (by simpa using h) λj p' v' h1 h2=>hp (j+1) p' v' (by simpa using h1) (by simpa using h2)⟩
theorem Pls.at2{k:Kd}:∀{ts ps:List D}{i:Nat}{p:D},Pls k ts ps->ps[i]?=AA p->∃t,ts[i]?=AA t/\Pl k t p
 |_,_,i,t,.nil,h=>by simp at h
 |_,_,0,t,.cons a b,h=>by simp_all
 |_,_,i+1,t,.cons a b,h=>by
  obtain⟨p,d,c⟩:=b.at2 (by simpa using h);exact⟨p,by simpa using d,c⟩
theorem Pls.drop{k}:∀{ts ps}m,Pls k ts ps->Pls k (ts.drop m) (ps.drop m)
 |_,_,0,h=>by simp_all
 |_,_,m+1,.nil=>.nil
 |_,_,m+1,.cons a b=>by simpa using b.drop m
theorem ai0{k}:∀{ts},(∀t∈ts,∃p,Pl k t p)->∃ps,Pls k ts ps
 |[],_=>⟨[],.nil⟩
 |t::ts,h=>by
  obtain⟨p,b⟩:=h t ∎;obtain⟨ps,a⟩:=ai0 (ts:=ts) λt ht=>h t (by simp[ht]);exact⟨p::ps,.cons b a⟩
abbrev PlS(P:i9)(G:Gs)(N B:Nat)(c:Kd):Prop:=∀t∈c.things,∃p,Pl c t p/\∀row:List D,row.length<=B->o6 P G N p row (dr c t)
def PlS.of(h:PlS P G N B c){t p:D}(a:t∈c.things)(e:Pl c t p)(b:row.length<=B):o6 P G N p row (dr c t):=by
 obtain⟨q,d,f⟩:=h t a;rw[ai5 _ c (Ab _) t p q e d];exact f row b
section
variable (T:PK62 P G)
include T
def c37{d}{k0}{v0}(z:d<=3)(A:8<=N)(w:∀c,Lv d c->c.bd 20->PlS P G N B c){k}(h:PathV d k0 v0 ls k v):∀{i}{row},row.length<=B->row[i]?=AA (dr k0 v0)->o6 P G (N+ls.length+1) (exD i ls) row (dr k v):=by
 induction h with
 |nil=>intro i row _ e;exact(ck0 T e).mono ⋯
 |@fst ls a b t u _ g=>
  intro i row f e;have l:=g f e;rw[L5,Ac];exact b21 T l
 |@snd ls a b t u _ g=>
  intro i row f e;have l:=g f e;rw[L5,Ac];exact b00 T l
 |@giv ls a b m t p v j _ n q o s y g=>
  intro i row f e;have l:=g f e;rw[L5,Ac];have x:=n.nest;exact ca9 T ⋯ (Kd.bd_mono ∅ q) ⋯ l (((w a n q).of (At o) s f).mono ⋯) o (by simp_all)
def bm0{d:Nat}(hd:d<=3)(hN:8<=N)(hB:B<=1000)(hA:∀c,Lv d c->c.bd 20->PlS P G N B c)(hG:PlS P G N B g):∀(n:Nat){asks:List Ask},rks asks<=n->(∀q∈asks,Lv d q.k/\q.k.bd 20/\q.ls.length+q.k.nest<=9)->∀{dp:Nat}{ts ps:List D},Pls g ts ps->(∀t∈ts,t∈g.things)->lns (asks.map (·.k))<=ts.length->∃x,Tr g dp asks ps x (ps.drop (lns (asks.map (·.k))))/\∀(row:List D)(i:Nat)(l:List D)(t:D),row.length+n<=B->(l7 (asks.map (·.k)))[i]?=AA l->Holds d row dp asks l->ts[i]?=AA t->o6 P G (N+n+10) x row (dr g t):=by
 have nil:∀{n dp:Nat}{ts ps:List D},Pls g ts ps->(∀t∈ts,t∈g.things)->1<=ts.length->∃x,Tr g dp [] ps x (ps.drop 1)/\∀(row:List D)(i:Nat)(l:List D)(t:D),row.length+n<=B->([[]]:List (List D))[i]?=AA l->Holds d row dp [] l->ts[i]?=AA t->o6 P G (N+n+10) x row (dr g t):=λ{n dp ts ps}C E j=>by
  cases C with
  |nil=>simp at j
  |@cons _ t p ts ps w F=>
   refine⟨p,.nil,λrow i l o hr e _ ht=>?_⟩;cases i with
   |succ i=>simp at e
   |zero=>
    simp at ht;subst ht;exact(hG.of (E _ ∎) w ⋯).mono ⋯
 intro n
 induction n with
 |zero=>
  intro asks Q f dp ts ps C E j;cases asks with
  |nil=>exact nil C E j
  |cons q r=>rw[l0]at Q;have:=G3 q.k;lia
 |succ n O=>
  intro asks Q f dp ts ps C E j;cases asks with
  |nil=>exact nil C E j
  |cons q r=>
   obtain⟨M,ls,k⟩:=q;obtain⟨X,L,nk⟩:=f ⟨M,ls,k⟩ ∎;have hr:∀q∈r,Lv d q.k/\q.k.bd 20/\q.ls.length+q.k.nest<=9:=λq h=>f q (by simp[h]);rw[l0]at Q;have pk:=G3 k;simp only at Q X L nk;rw[AZ]at j ⊢;simp only at j ⊢;cases k with
   |non=>
    refine⟨_,by rw[lns,Kd.cnt,LZ,Ig];exact .non,λrow i l t _ e=>?_⟩;simp[l7,Kd.things]at e
   |one=>
    rw[lns,Kd.cnt,Er]at j ⊢;obtain⟨x,w,F⟩:=O (dp:=dp) ⋯ hr C E j;refine⟨x,.mute rfl w,λrow i l t hrow e hh ht=>?_⟩;simp only[l7,Kd.things,CN,List.flatMap_nil,Ao,Aj,Br]at e;obtain⟨I,e,rfl⟩:=e;exact(F row i I t ⋯ e hh.2 ht).mono ⋯
   |eith a b=>
    simp only[Kd.rk]at Q;simp only[Kd.nest]at nk;have hA1:∀c∈(Kd.eith a b).subs,c.bd 20->c.nest<=9->∀q∈(⟨dp,[],c⟩:Ask)::r,Lv d q.k/\q.k.bd 20/\q.ls.length+q.k.nest<=9:=λc hc hb j q f=>by
     rcases AK.mp f with rfl|f
     ·exact⟨X.subs' hc,hb,by simpa using j⟩
     ·exact hr q f
    obtain⟨H,J⟩:∃m,m=lns (a::r.map (·.k)):=⟨_,rfl⟩;obtain⟨m2,S⟩:∃m,m=lns (b::r.map (·.k)):=⟨_,rfl⟩;have U:lns (.eith a b::r.map (·.k))=H+m2:=by rw[J,S,lns,lns,lns,Kd.cnt,EU]
    rw[U]at j ⊢;obtain⟨x,w,F⟩:=O (asks:=⟨dp,[],a⟩::r) (dp:=dp+1) (by rw[l0];simp only;lia) (hA1 a (by simp[Kd.subs]) L.1 ⋯) C E (by rw[AZ,<-J];lia);obtain⟨y,h3,h4⟩:=O (asks:=⟨dp,[],b⟩::r) (dp:=dp+1) (ts:=ts.drop H) (ps:=ps.drop H) (by rw[l0];simp only;lia) (hA1 b (by simp[Kd.subs]) L.2.1 ⋯) (C.drop H) (λt ht=>E t (List.mem_of_mem_drop ht)) (by rw[AZ,<-S,EH];lia);rw[AZ]at w F h3 h4;simp only[<-J]at w;simp only[<-S,List.drop_drop]at h3;refine⟨_,.eith w h3,λrow i l t hrow e hh ht=>?_⟩;have ll:(l7 (a::r.map (·.k))).length=H:=by rw[R7,J]
    have K:∀(s:String)(o:D)(I:List D)(c:Kd),l=.tup [.str s,o]::I->dr (.eith a b) (.tup [.str s,o])=.tup [.str s,dr c o]->o6 P G (N+n+10) (exD (dp-1-M) ls) row (.tup [.str s,dr c o])/\Holds d (dr c o::row) (dp+1) (⟨dp,[],c⟩::r) (o::I):=λs o I c z ed=>by
     subst z;obtain⟨⟨q1,k0,Z,W,V⟩,q4⟩:=hh;have:=c37 T hd hN hA V (i:=dp-1-M) (row:=row) ⋯ W;rw[ed]at this;refine⟨this.mono (by simp only;lia),⟨⟨∎,c,o,?_,.nil⟩,q4.push⟩⟩;rw[show dp+1-1-dp=0 by lia];rfl
    rw[bw1]at e
    by_cases hlt:i<H
    ·rw[Ag (by rw[AT,ll];exact hlt),Aj,Br]at e;obtain⟨l1,e,z⟩:=e;obtain⟨o,I,rfl,_,_⟩:=V7 (At e);obtain⟨s1,s2⟩:=K "l" o I a z.symm Z3;have:=F _ i _ t (by simp only[AW];lia) e s2 ht;exact(bh5 T ⋯ s1 (.inl ⟨rfl,this⟩)).mono ⋯
    ·rw[Au (by rw[AT,ll];lia),AT,ll,Aj,Br]at e;obtain⟨l1,e,z⟩:=e;obtain⟨o,I,rfl,_,_⟩:=V7 (At e);obtain⟨s1,s2⟩:=K "r" o I b z.symm Z9;have:=h4 _ (i-H) _ t (by simp only[AW];lia) e s2 (by rw[Ie,show H+(i-H)=i by lia];exact ht);exact(bh5 T ⋯ s1 (.inr ⟨rfl,this⟩)).mono ⋯
   |both a b=>
    simp only[Kd.rk]at Q;simp only[Kd.nest]at nk;have U:lns (.both a b::r.map (·.k))=lns (a::b::r.map (·.k)):=by simp only[lns,Kd.cnt,GH]
    rw[U]at j ⊢;obtain⟨x,w,F⟩:=O (asks:=⟨M,ls++[.fst],a⟩::⟨M,ls++[.snd],b⟩::r) (dp:=dp) (by rw[l0,l0];simp only;lia) (λq f=>by
     simp only[AK]at f
     rcases f with rfl|rfl|f
     ·exact⟨X.subs' (by simp[Kd.subs]),L.1,by simp;lia⟩
     ·exact⟨X.subs' (by simp[Kd.subs]),L.2.1,by simp;lia⟩
     ·exact hr q f) C E j
    refine⟨x,.both w,λrow i l t hrow e hh ht=>?_⟩;rw[bv8,Aj,Br]at e;obtain⟨l1,e,z⟩:=e;obtain⟨t1,l2,rfl,_,h5⟩:=V7 (At e);obtain⟨t2,l3,rfl,_,_⟩:=V7 h5;simp only[jnB]at z;subst z;obtain⟨⟨q1,k0,Z,W,V⟩,q4⟩:=hh;exact(F row i _ t ⋯ e ⟨⟨q1,k0,Z,W,.fst V⟩,⟨q1,k0,Z,W,.snd V⟩,q4⟩ ht).mono ⋯
   |way a b=>
    simp only[Kd.rk]at Q;simp only[Kd.nest]at nk;have la:Lv d a:=X.subs' (by simp[Kd.subs]);obtain⟨gs,R⟩:=ai0 (k:=a) (ts:=a.things) λt ht=>(hA a la L.1 t ht).imp λp h=>h.1;have hgl:=R.len;have tl:=o7 a;obtain⟨m,U⟩:∃m,m=a.things.length:=⟨_,rfl⟩;have eks:((gs.map λp=>(⟨M,ls++[.giv p],b⟩:Ask))++r).map (·.k)=BP m b++r.map (·.k):=by
     rw[Ae,BN]
     congr 1
     rw[U,hgl];generalize gs=gl
     induction gl with
     |nil=>rfl
     |cons p gl O=>rw[AZ,O,AW,FW];rfl
    have el1:lns (.way a b::r.map (·.k))=lns (BP m b++r.map (·.k)):=by
     rw[<-R7,a85,AT,<-U,R7]
    rw[el1]at j ⊢;obtain⟨x,w,F⟩:=O (asks:=(gs.map λp=>⟨M,ls++[.giv p],b⟩)++r) (dp:=dp) (by rw[P9,ab2,<-hgl,tl];lia) (λq f=>by
     rcases Ap.mp f with f|f
     ·obtain⟨p,_,rfl⟩:=Aq.mp f;exact⟨X.subs' (by simp[Kd.subs]),L.2.1,by simp;lia⟩
     ·exact hr q f) C E (by rw[eks];exact j)
    rw[eks]at w F;refine⟨x,.way R w,λrow i l t hrow e hh ht=>?_⟩;rw[a85,<-U,Aj,Br]at e;obtain⟨l1,e,z⟩:=e;have hll:=V1 (At e);rw[Ac,Ez]at hll;simp only[jnW]at z;subst z;obtain⟨⟨q1,k0,Z,W,V⟩,q4⟩:=hh;refine(F row i l1 t ⋯ e ?_ ht).mono ⋯;rw[<-FC m l1];refine Holds.app (a88 (by rw[DZ];lia) λj p v hj1 hj2=>?_) q4;obtain⟨o,e1,e2⟩:=R.at2 hj1;exact⟨q1,k0,Z,W,.giv V la L.1 e1 e2 hj2⟩
end
abbrev tN:Nat->Nat
 |0=>12
 |d+1=>tN d+rkb d+12
theorem PlS.mono{M C}(h:PlS P G N B c)(a:N<=M)(e:C<=B):PlS P G M C c:=λt ht=>by
 obtain⟨p,d,b⟩:=h t ht;exact⟨p,d,λrow hr=>(b row ⋯).mono a⟩
abbrev D7:List Kd->List D->List D
 |k::Γ,v::l=>dr k v::D7 Γ l
 |_,_=>[]
theorem bc7:∀{Γ}{l},l.length=Γ.length->(D7 Γ l).length=Γ.length
 |[],l,_=>rfl
 |k::Γ,[],h=>by simp at h
 |k::Γ,v::l,h=>by simp only[D7,AW];rw[bc7 (by simpa using h)]
theorem a82:∀{Γ}{l}{k}{v},l.length=Γ.length->D7 (Γ++[k]) (l++[v])=D7 Γ l++[dr k v]
 |[],[],_,_,_=>rfl
 |[],v::l,_,_,h=>by simp at h
 |k::Γ,[],_,_,h=>by simp at h
 |k::Γ,v::l,_,_,h=>by simp only[BB,D7];rw[a82 (by simpa using h)]
theorem az4{d}:∀{Γ}{l pre}{dp},l.length=Γ.length->pre.length+Γ.length=dp->Holds d (pre++D7 Γ l) dp (nA Γ) l
 |[],[],_,_,_,_=>trivial
 |[],v::l,_,_,h,_=>by simp at h
 |k::Γ,[],_,_,h,_=>by simp at h
 |k::Γ,v::l,pre,dp,h,hd=>by
  simp only[AW]at h hd;refine⟨⟨⋯,k,v,?_,.nil⟩,?_⟩
  ·rw[show dp-1-Γ.length=pre.length by lia,D7];simp
  ·have:=az4 (d:=d) (Γ:=Γ) (l:=l) (pre:=pre++[dr k v]) (dp:=dp) ⋯ (by simp;lia);rw[BV]at this;exact this
section
variable (T:PK62 P G)
include T
def bk6:∀(d:Nat),d<=3->∀k:Kd,Lv d k->k.bd 20->PlS P G (tN d) (1000-50*d) k:=by
 have one:∀{N B:Nat},1<=N->PlS P G N B .one:=λ{N B}hN t f=>by
  simp only[Kd.things,Am]at f;subst f;exact⟨_,.one,λrow _=>(as9 T).mono hN⟩
 intro d
 induction d with
 |zero=>
  intro _ k n _;cases n with
  |one=>exact one ∅
  |two=>
   intro t f;simp only[Kd.things,AZ,CG,BB,BH,AK,Aa,or_false]at f
   rcases f with rfl|rfl
   ·refine⟨_,.l .one,λrow _=>?_⟩;rw[Z3];exact(bd0 T (as9 T)).mono ∅
   ·refine⟨_,.r .one,λrow _=>?_⟩;rw[Z9];exact(a99 T (as9 T)).mono ∅
 |succ d s=>
  intro hd k n q t f;have eN:tN (d+1)=tN d+rkb d+12:=rfl;have F:8<=tN d:=by cases d<;>simp only[tN]<;>lia
  cases k with
  |non=>simp[Kd.things]at f
  |one=>exact one ⋯ t f
  |eith a b=>
   simp only[Kd.things,Ap,Aq]at f
   rcases f with⟨u,w,rfl⟩|⟨u,w,rfl⟩
   ·obtain⟨p,o,z⟩:=s ⋯ a (n.subs (by simp[Kd.subs])) q.1 u w;refine⟨_,.l o,λrow hr=>?_⟩;rw[Z3];exact(bd0 T (z row ⋯)).mono ⋯
   ·obtain⟨p,o,z⟩:=s ⋯ b (n.subs (by simp[Kd.subs])) q.2.1 u w;refine⟨_,.r o,λrow hr=>?_⟩;rw[Z9];exact(a99 T (z row ⋯)).mono ⋯
  |both a b=>
   simp only[Kd.things,Be,Aq]at f;obtain⟨u,w,v,A,rfl⟩:=f;obtain⟨p,o,z⟩:=s ⋯ a (n.subs (by simp[Kd.subs])) q.1 u w;obtain⟨p2,h3,h4⟩:=s ⋯ b (n.subs (by simp[Kd.subs])) q.2.1 v A;refine⟨_,.both o h3,λrow hr=>?_⟩;rw[Y6];exact(cd8 T (z row ⋯) (h4 row ⋯)).mono ⋯
  |way a b=>
   have C:Lv d a:=n.subs (by simp[Kd.subs]);have O:Lv d b:=n.subs (by simp[Kd.subs]);have ra:=av9 ⋯ C;have r2:rkb d<=29:=by unfold rkb;split<;>decide
   have na:=C.nest;have tl:=o7 a;simp only[Kd.things,Aq]at f;obtain⟨m,D,rfl⟩:=f;obtain⟨M,L⟩:=F8 _ _ _ D;have H:∀c,Lv d c->c.bd 20->PlS P G (tN d) (1000-50*d) c:=λc lc bc=>s ⋯ c lc bc;obtain⟨ps,y⟩:=ai0 (k:=b) (ts:=m) λt f=>(H b O q.2.1 t (L t f)).imp λp h=>h.1;have E:=y.len;have I:lns ([(⟨0,[],a⟩:Ask)].map (·.k))=m.length:=by simp[lns,M,tl]
   obtain⟨x,o,z⟩:=bm0 T (d:=d) (g:=b) ⋯ F ⋯ H (H b O q.2.1) a.rk (asks:=[⟨0,[],a⟩]) (by simp[rks]) (λq hq=>by rw[Am]at hq;subst hq;exact⟨C,q.1,by simp;lia⟩) (dp:=1) y L ⋯;rw[I,E,He]at o;refine⟨_,.way y o,λrow hr=>?_⟩;rw[ad9];refine(cx2 T (N:=tN d+a.rk+10) ⋯ (Kd.bd_mono ∅ q.1) ⋯ (by rw[AT,M]) λj t v hj A=>?_).mono ⋯;rw[Aj,Br]at A;obtain⟨u,w,rfl⟩:=A;refine z (dr a t::row) j [t] u (by simp only[AW];lia) ?_ ⟨⟨Nat.zero_lt_one,a,t,rfl,.nil⟩,trivial⟩ w;have e:l7 ([(⟨0,[],a⟩:Ask)].map (·.k))=a.things.map λt=>[t]:=by
    simp only[AZ,CG,l7];generalize a.things=l
    induction l with
    |nil=>rfl
    |cons t l s=>rw[CN,s];rfl
   rw[e,Aj,hj];rfl
def b60{st:Sto}(hn:N<=n)(hN:8<=N)(bg:g.bd 20)(ng:g.nest<=4)(hl:Γ.length<=3)(hk:∀k∈Γ,Lv 2 k/\k.bd 12)(hb:∀i,lns (Γ.take i)<=12)(hlen:ts.length=lns Γ)(hm:∀t∈ts,t∈g.things)(hx:∀(i:Nat)l t,(l7 Γ)[i]?=AA l->ts[i]?=AA t->o6 P G N x (D7 Γ l) (dr g t))(q:∀a st',st a=AD->st' a=AA (.lst ts)->Kp [] st st'->Q (.ref a) st'):sem P G (n+1) "_law_table" [x,.tup (Γ.map Kd.d)] st Q:=by
 refine i5 T.table rfl [AA x,AA (.tup (Γ.map Kd.d)),AD,AD,AD] rfl ?_;unfold al7;have lG:lns Γ<=12:=by have:=hb Γ.length;rwa [Eo]at this
 have ll:=R7 Γ;∎;intro fa hfa;∎;refine⟨by rw[T.lrows];rfl,bb8 T.toPKs ⋯ hl hk hb λra st1 hra0 hra K1=>?_⟩;have hfa1:=K1.at' (f6 (st:=st) (a:=fa) (o:=.lst [])) ∎;have hrf:ra≠fa:=λz=>by rw[z,f6]at hra0;cases hra0
 have K01:Kp [] st st1:=(Kp.refl.new hfa).trans K1;rfl';refine⟨_,.inl hra,?_⟩;refine A0 (λl env st'=>∃(pre suf:List (List D))(tp tf:List D)(x3 x4:Option D),l7 Γ=pre++suf/\l=suf.map D.tup/\ts=tp++tf/\tp.length=pre.length/\env=[AA x,AA (.tup (Γ.map Kd.d)),AA (.ref fa),x3,x4]/\st' fa=AA (.lst tp)/\st' ra=AA (.lst ((l7 Γ).map D.tup))/\Kp [] st st') ?_ ?_ _ _ _ ⟨[],l7 Γ,[],ts,AD,AD,rfl,rfl,rfl,rfl,rfl,hfa1,hra,K01⟩
 ·rintro env st' ⟨pre,suf,tp,tf,x3,x4,e,el,et,hp,rfl,hf,hr,K⟩;refine⟨.inl hr,?_⟩;have:suf=[]:=by simpa using el.symm
  subst this;rw[Ao]at e;have:tf=[]:=by
   have h1:=congrArg CB et;rw[Ac,hlen,hp,<-e,ll]at h1;exact BD ⋯
  subst this;rw[Ao]at et;subst et;∎;exact f7 (q fa st' hfa hf K)
 ·rintro d ds env st' ih ⟨pre,suf,tp,tf,x3,x4,e,el,et,hp,rfl,hf,hr,K⟩;refine⟨.inl hr,?_⟩;cases suf with
  |nil=>simp at el
  |cons l suf=>
   simp only[AZ,AY]at el;obtain⟨rfl,rfl⟩:=el;have hlm:l∈l7 Γ:=by rw[e];simp
   have hll:=V1 hlm;cases tf with
   |nil=>
    have h1:=congrArg CB et;rw[Ao,hlen,hp,<-ll,e]at h1;simp at h1
   |cons t tf=>
    have htm:t∈g.things:=hm t (by rw[et];simp);have hT:=hx pre.length l t (by rw[e];simp) (by rw[et,<-hp];simp);rfl';∎;refine⟨_,_,rfl,rfl,?_⟩;refine⟨by simp only[E2,AT,IG];lia,?_⟩;refine F9 (λL acc env' st2=>∃(Γp Γs:List Kd)(lp ls:List D)(x0 x1:Option D),Γ=Γp++Γs/\l=lp++ls/\lp.length=Γp.length/\ls∈l7 Γs/\L=E2 (Γs.map Kd.d) ls/\acc=D7 Γp lp/\env'=[x0,x1]/\Kp [] st' st2) ?_ ?_ _ _ _ _ ⟨[],Γ,[],l,AD,AD,rfl,rfl,rfl,hlm,rfl,rfl,rfl,Kp.refl⟩
    ·rintro acc env' st2 ⟨Γp,Γs,lp,ls,x0,x1,eΓ,eL,hlp,hls,eZ,rfl,rfl,K2⟩;refine⟨⟨rfl,rfl⟩,λp hp2=>?_⟩;have hls2:=V1 hls;have:Γs=[]:=by
      cases Γs with
      |nil=>rfl
      |cons k Γs=>cases ls with
       |nil=>simp at hls2
       |cons v ls=>simp[E2]at eZ
     subst this;have:ls=[]:=BD hls2;subst this;rw[Ao]at eΓ eL;subst eΓ;subst eL;have hf2:=i7 (u:=.lst (D7 Γ l)) (K2.at' hf ∎) hp2;have hr2:=i7 (u:=.lst (D7 Γ l)) (K2.at' hr ∎) hp2;have K3:=(K.trans K2).new (o:=.lst (D7 Γ l)) hp2;∎;rw[u0 (.inl hf2)];refine⟨trivial,by rw[T.bare];rfl,by rw[T.told];rfl,hT n hn _ _ λst4 K4=>?_⟩;refine bf3 T g t (Kd.bd_mono ∅ bg) htm ⋯ λst5 K5=>?_;rw[C6 ((K4.trans K5).at' hf2 ∎)];have htl:tp.length<=12:=by
      have h1:=congrArg CB et;rw[Ac,hlen]at h1;lia
     refine⟨C4 ⋯,?_⟩;rfl';exact ih _ _ ⟨pre++[l],suf,tp++[t],tf,_,_,by rw[e];simp,rfl,by rw[et];simp,by simp[hp],rfl,f6,f8 ((K4.trans K5).at' hr2 ∎) hrf,λb u nb eb=>f8 ((K3.trans (K4.trans K5)) b u nb eb) (j9 eb hfa)⟩
    ·rintro z zs acc env' st2 ihc ⟨Γp,Γs,lp,ls,x0,x1,eΓ,eL,hlp,hls,eZ,rfl,rfl,K2⟩;refine⟨⟨rfl,rfl⟩,?_⟩;cases Γs with
     |nil=>simp[E2]at eZ
     |cons k Γs=>
      obtain⟨v,ls,rfl,hv,hls⟩:=V7 hls;have hk2:=hk k (by rw[eΓ];simp);have nk:=hk2.1.nest;simp only[E2,AZ,DR,AY]at eZ;obtain⟨rfl,rfl⟩:=eZ;rfl';refine⟨by rw[T.dressed];rfl,a57 T k v (Kd.bd_mono ∅ hk2.2) hv ⋯ λst3 K3=>ihc _ _ _ ⟨Γp++[k],Γs,lp++[v],ls,_,_,by rw[eΓ];simp,by rw[eL];simp,by simp[hlp],hls,rfl,(a82 hlp).symm,rfl,K2.trans K3⟩⟩
end
section
variable (T:PK62 P G)
include T
def ct2{k:Kd}{Γ:List Kd}{ts:List D}(lk:Lv 3 k)(bk:k.bd 20)(hl:Γ.length<=3)(hk:∀c∈Γ,Lv 2 c/\c.bd 12)(hlen:ts.length=lns Γ)(hm:∀t∈ts,t∈k.things):∃ps x,Pls k ts ps/\Tr k Γ.length (nA Γ) ps x []/\r9 137 x/\∀(i:Nat)l t,(l7 Γ)[i]?=AA l->ts[i]?=AA t->o6 P G 184 x (D7 Γ l) (dr k t):=by
 have hR:rks (nA Γ)<=87:=by
  have:=au6 (b:=29) (Γ:=Γ) λc hc=>lv2 (hk c hc).1;lia
 have hA:∀c,Lv 2 c->c.bd 20->PlS P G (tN 3) 850 c:=λc lc bc=>(bk6 T 2 ⋯ c lc bc).mono ∅ ∅;have hG:PlS P G (tN 3) 850 k:=bk6 T 3 ⋯ k lk bk;obtain⟨ps,hps⟩:=ai0 (k:=k) (ts:=ts) λt ht=>(hG t (hm t ht)).imp λp h=>h.1;have hpl:=hps.len;obtain⟨x,h1,h2⟩:=bm0 T (d:=2) (g:=k) ⋯ ∅ ⋯ hA hG 87 (asks:=nA Γ) hR (λq hq=>by
  obtain⟨m1,m2,_⟩:=W6 hq;have l1:=hk _ m1;have:=l1.1.nest;exact⟨l1.1,Kd.bd_mono ∅ l1.2,by rw[m2];simp;lia⟩) (dp:=Γ.length) hps hm (by rw[ai7];lia)
 rw[ai7]at h1 h2;rw[<-hlen,hpl,He]at h1;have nk:=lk.nest;have hnice:=(bf2 (d:=2) (X:=Xb 2) (L:=3) (W:=Xb 3) (g:=k) ∅ ∅ (by have:Xb 3=50:=rfl;lia) (λc lc=>bh6 2 ⋯ c lc) 87 (asks:=nA Γ) hR (λq hq=>by
  obtain⟨m1,m2,_⟩:=W6 hq;have l1:=(hk _ m1).1;have:=l1.nest;exact⟨l1,by rw[m2];exact au2,by rw[m2];simpa using this⟩) (af9 (bh6 3 ⋯ k lk) hps) h1).1
 refine⟨ps,x,hps,h1,hnice,λi l t hi ht=>?_⟩;have hll:=V1 (At hi);have h3:=az4 (d:=2) (Γ:=Γ) (l:=l) (pre:=[]) (dp:=Γ.length) hll ∎;exact h2 (D7 Γ l) i l t (by rw[bc7 hll];lia) hi h3 ht
variable (hlaw:P "law"=AA d_law_k62)
include hlaw
end
structure PSh(P:i9)(G:Gs):Prop extends PM P G where
 init:P (f9 "Shelf" "__init__")=AA al2
 numb:P (f9 "Shelf" "numbered")=AA ak7
 tup:P (f9 "Shelf" "tuple_at")=AA ak8
 word:P (f9 "Shelf" "word_at")=AA al6
 wthn:P (f9 "Shelf" "within")=AA am6
 cls:G.cls "Shelf"=[("numbers":Str),("stored":Str),("parts":Str),("waiting":Str)]
 kt:G.cls "!kt"≠[]
abbrev C7(ns:List Nat):D:=.tup (ns.map λ(n:Nat)=>D.int (n:Int))
structure It3 where
 fr:List D
 ns:List Nat
 t:D
variable{S':List It3}
abbrev It3.key(e:It3):D:=.tup [.tup e.fr,C7 e.ns]
structure Wf(S:List It3):Prop where
 wh:∀(i:Nat)(e:It3),S[i]?=AA e->(∀d∈e.fr,∃s:String,d=.str s)/\∃inn,e.t=.tup (e.fr++inn)/\inn.length=e.ns.length/\∀(j n:Nat),e.ns[j]?=AA n->n<i/\∃e',S[n]?=AA e'/\inn[j]?=AA e'.t
 nd:(S.map It3.key).Nodup
structure ShA(sh dn sa pa wa:AH)(S:List It3)(st:Sto):Prop where
 ins:st sh=AA (.ins "Shelf" [(("numbers":Str),D.ref dn),(("stored":Str),D.ref sa),(("parts":Str),D.ref pa),(("waiting":Str),D.ref wa)])
 num:st dn=AA (.dtt (S.mapIdx λi e=>(e.key.py,.int i)))
 sto:st sa=AA (.lst (S.map It3.t))
 par:st pa=AA (.lst (S.map λe=>C7 e.ns))
 wai:∃o,st wa=AA o
 wf:Wf S
 ml:S.length<=1000000
 fl:∀e∈S,e.fr.length<=10/\e.ns.length<=1000
def bf5{fr' inn inn':List D}(h1:∀d∈fr,∃s:String,d=.str s)(h2:∀d∈fr',∃s:String,d=.str s)(h3:∀d∈inn,∃l,d=.tup l)(h4:∀d∈inn',∃l,d=.tup l)(h:fr++inn=fr'++inn'):fr=fr'/\inn=inn':=by
 induction fr generalizing fr' with
 |nil=>
  cases fr' with
  |nil=>exact⟨rfl,h⟩
  |cons x fr'=>
   obtain⟨s,rfl⟩:=h2 x ∎;rw[BH,BB]at h;obtain⟨l,e⟩:=h3 (.str s) (by rw[h];simp);cases e
 |cons x fr ih=>
  cases fr' with
  |nil=>
   obtain⟨s,rfl⟩:=h1 x ∎;rw[BH,BB]at h;obtain⟨l,e⟩:=h4 (.str s) (by rw[<-h];simp);cases e
  |cons y fr'=>
   rw[BB,BB,AY]at h;obtain⟨rfl,h⟩:=h;obtain⟨rfl,rfl⟩:=ih (λd hd=>h1 d (by simp[hd])) (λd hd=>h2 d (by simp[hd])) h;exact⟨rfl,rfl⟩
theorem Wf.inn{S}(w:Wf S){e}(h:S[i]?=AA e):∃inn,e.t=.tup (e.fr++inn)/\inn.length=e.ns.length/\(∀d∈inn,∃l,d=.tup l)/\∀(j n:Nat),e.ns[j]?=AA n->n<i/\∃e',S[n]?=AA e'/\inn[j]?=AA e'.t:=by
 obtain⟨_,inn,h1,h2,h3⟩:=w.wh i e h;refine⟨inn,h1,h2,λd hd=>?_,h3⟩;obtain⟨j,hj⟩:=FD.mp hd;have hjl:j<e.ns.length:=(h2▸(AX.mp hj).1)
 obtain⟨_,e',he',hi⟩:=h3 j _ (AM hjl);rw[hj]at hi;obtain⟨_,inn',h1',_⟩:=w.wh _ e' he';cases hi;exact⟨_,h1'⟩
def Wf.inj{S:List It3}(w:Wf S):∀(m:Nat){i j:Nat}{e e':It3},i<=m->S[i]?=AA e->S[j]?=AA e'->e.t=e'.t->i=j:=by
 intro m
 induction m using Jj with
 |ind m ih=>
 intro i j e e' him hi hj ht;obtain⟨inn,h1,h2,h3,h4⟩:=w.inn hi;obtain⟨inn',h1',h2',h3',h4'⟩:=w.inn hj;rw[h1,h1']at ht;have ht':e.fr++inn=e'.fr++inn':=by injection ht
 obtain⟨ef,ei⟩:=bf5 (w.wh i e hi).1 (w.wh j e' hj).1 h3 h3' ht';subst ei;have en:e.ns=e'.ns:=by
  refine HE λk=>?_
  by_cases hk:k<e.ns.length
  ·have hk':k<e'.ns.length:=by rw[<-h2',h2];exact hk
   obtain⟨l1,f,hf,g1⟩:=h4 k _ (AM hk);obtain⟨l2,f',hf',g2⟩:=h4' k _ (AM hk');rw[g1]at g2;have:=ih e.ns[k] ⋯ (Ab _) hf hf' (by injection g2);rw[AM hk,AM hk',this]
  ·rw[Bu ⋯,Bu (by rw[<-h2',h2];lia)]
 have ek:e.key=e'.key:=by unfold It3.key;rw[ef,en]
 exact af2 w.nd i j e.key (by rw[Aj,hi];rfl) (by rw[Aj,hj,ek];rfl)
mutual
theorem ah9:∀d:D,d.lit=AC->NK.lit d.py=AC
 |.int _,_=>rfl
 |.str _,h=>h
 |.tup ds,h=>bg1 ds h
 |.non,h=>nomatch h
 |.bl _,h=>nomatch h
 |.ref _,h=>nomatch h
 |.fn _,h=>nomatch h
theorem bg1:∀ds:List D,D.lits ds=AC->NK.lits (D.pys ds)=AC
 |[],_=>rfl
 |d::r,h=>by
  have h':d.lit=AC/\D.lits r=AC:=by simpa[D.lits]using h
  show(NK.lit d.py&&NK.lits (D.pys r))=AC;rw[ah9 d h'.1,bg1 r h'.2];rfl
end
def bl9(hx)hy(h:x.py=y.py):=by
 refine(ah2 x y hx hy).mp ?_;unfold deq;rw[h];exact(NK.eqv_lit _ _ (ah9 y hy) (ah9 y hy)).mpr rfl
def bd3{e:It3}(h:∀d∈e.fr,∃s:String,d=.str s):e.key.lit=AC:=by
 have h1:=P1.mpr λd hd=>by obtain⟨s,rfl⟩:=h d hd;exact L3 s
 have h2:(C7 e.ns).lit=AC:=P1.mpr λd hd=>by
  obtain⟨n,_,rfl⟩:=Aq.mp hd;rfl
 show D.lits [.tup e.fr,C7 e.ns]=AC;rw[D2,D2,J4,h1,h2];rfl
def cp8{e:It3}(h:∀d∈e.fr,∃s:String,d=.str s):l8 e.key<=2:=by
 unfold It3.key;have h1:y6 e.fr<=0:=by
  generalize e.fr=l at h
  induction l with
  |nil=>exact Ab _
  |cons d l ih=>
   obtain⟨s,rfl⟩:=h d ∎;have:=ih λd hd=>h d (by simp[hd]);show max (l8 (.str s)) (y6 l)<=0;rw[D4];lia
 have h2:∀ns:List Nat,y6 (ns.map λ(n:Nat)=>D.int (n:Int))<=0:=λns=>by
  induction ns with
  |nil=>exact Ab _
  |cons n ns ih=>
   show max (l8 (.int n)) (y6 _)<=0;rw[X3];lia
 have h3:=h2 e.ns;show max (l8 (.tup e.fr)) (max (l8 (C7 e.ns)) 0)+1<=2;unfold C7;rw[D9,D9];lia
theorem a78:∀(S:List It3)(k:D)(o:Nat),(∀e∈S,e.key.py≠k.py)->E7 (S.mapIdx λi e=>(e.key.py,D.int ((o+i:Nat):Int))) k.py=AD
 |[],k,o,_=>by simp[E7]
 |e::S,k,o,h=>by
  have:=a78 S k (o+1) λe' he=>h e' (by simp[he]);rw[Jb];unfold E7 at this ⊢;rw[CJ,decide_eq_false (h e ∎)];simp only;simpa[EV,II 1]using this
theorem a73:∀(S:List It3)(k:D)(o i:Nat)(e:It3),S[i]?=AA e->e.key.py=k.py->(∀j e',j<i->S[j]?=AA e'->e'.key.py≠k.py)->E7 (S.mapIdx λi e=>(e.key.py,D.int ((o+i:Nat):Int))) k.py=AA (.int ((o+i:Nat):Int))
 |[],k,o,i,e,h,_,_=>by simp at h
 |x::S,k,o,0,e,h,hk,_=>by
  simp at h;subst h;rw[Jb];unfold E7;rw[CJ,decide_eq_true hk];rfl
 |x::S,k,o,i+1,e,h,hk,hj=>by
  have:=a73 S k (o+1) i e (by simpa using h) hk λj e' hji he'=>hj (j+1) e' ⋯ (by simpa using he');rw[Jb];unfold E7 at this ⊢;rw[CJ,decide_eq_false (hj 0 x ⋯ rfl)];simpa[EV,II 1]using this
def b49:∀{a b},C7 a=C7 b->a=b:=by
 intro a b h;injection h with h
 induction a generalizing b with
 |nil=>simp_all
 |cons x a ih=>cases b with
  |nil=>simp at h
  |cons y b=>
   grind
def cu4{S:List It3}{ns:List Nat}{x y:List D}(hx:x.length=ns.length)(hy:y.length=ns.length)(h1:∀(j n:Nat),ns[j]?=AA n->∃e,S[n]?=AA e/\x[j]?=AA e.t)(h2:∀(j n:Nat),ns[j]?=AA n->∃e,S[n]?=AA e/\y[j]?=AA e.t):x=y:=by
 refine HE λj=>?_
 by_cases hj:j<ns.length
 ·obtain⟨e,he,g1⟩:=h1 j _ (AM hj);obtain⟨e',he',g2⟩:=h2 j _ (AM hj);rw[he]at he';cases he';rw[g1,g2]
 ·simp_all
section
variable (T:PSh P G)
include T
def bt1{S:List It3}(A:ShA sh dn sa pa wa S st)(hd:[sh,dn,sa,pa].Nodup){inn:List D}{ns:List Nat}(hfr:∀d∈fr,∃s:String,d=.str s)(hlen:inn.length=ns.length)(hns:∀(j n:Nat),ns[j]?=AA n->∃e,S[n]?=AA e/\inn[j]?=AA e.t)(b1:fr.length<=10)(b2:ns.length<=1000)(b3:S.length<1000000)
  (q:∀m S' st',ShA sh dn sa pa wa S' st'->S <+: S'->S'.length<=S.length+1->S'[m]?=AA ⟨fr,ns,.tup (fr++inn)⟩->Kp [dn,sa,pa] st st'->Q (.int (m:Nat)) st'):sem P G (n+1) (f9 "Shelf" "numbered") [.ref sh,.tup fr,C7 ns] st Q:=by
 obtain⟨E,hE⟩:∃E:It3,E=⟨fr,ns,.tup (fr++inn)⟩:=⟨_,rfl⟩;have hk:E.key=.tup [.tup fr,C7 ns]:=by rw[hE];rfl
 have hlE:=bd3 (e:=E) (by rw[hE];exact hfr);have hdE:=cp8 (e:=E) (by rw[hE];exact hfr);have hkey:D.key (.tup [.tup fr,C7 ns]):=by
  rw[<-hk];exact⟨ah9 _ hlE,Bd hdE ∅⟩
 have hlS:∀e∈S,e.key.lit=AC:=λe he=>by
  obtain⟨i,hi⟩:=FD.mp he;exact bd3 (A.wf.wh i e hi).1
 have hidx:(S.mapIdx λi e=>(e.key.py,D.int i))=S.mapIdx λi e=>(e.key.py,D.int ((0+i:Nat):Int)):=by
  congr 1;funext i e;rw[La]
 refine i5 T.numb rfl [AA (.ref sh),AA (.tup fr),AA (C7 ns),AD,AD] rfl ?_;(iterate 2 ∎);refine⟨sh,"Shelf",_,.ref dn,rfl,A.ins,by show _∈G.cls "Shelf";rw[T.cls];simp,rfl,⟨_,A.num⟩,_,A.num,hkey,?_⟩;rw[<-hk]
 by_cases hex:∃(i:Nat)(e:It3),S[i]?=AA e/\e.key=E.key
 ·obtain⟨i,e,hi,he⟩:=hex;have hl:E7 (S.mapIdx λi e=>(e.key.py,D.int i)) E.key.py=AA (.int i):=by
   rw[hidx,a73 S E.key 0 i e hi (by rw[he]) λj e' hj he' z=>?_,La];have hz:=bl9 (hlS e' (At he')) hlE z;have:=af2 A.wf.nd j i E.key (by rw[Aj,he'];exact congrArg AA hz) (by rw[Aj,hi];exact congrArg AA he);lia
  rw[hl];∎;refine .inr ⟨nofun,?_⟩;∎;refine f7 (q i S st A (DI S) ⋯ ?_ Kp.refl);rw[hi];have hk2:e.key=.tup [.tup fr,C7 ns]:=by rw[he,hk]
  injection hk2 with hk2
  simp only[AY,and_true]at hk2;obtain⟨k1,k2⟩:=hk2;injection k1 with k1
  have k3:e.ns=ns:=b49 k2;obtain⟨inn',h1,h2,_,h4⟩:=A.wf.inn hi;have:inn'=inn:=cu4 h2 (by rw[k3];exact hlen) (λj n hj=>(h4 j n hj).2) (by rw[k3];exact hns);obtain⟨a,b,c⟩:=e;simp only at k1 k3 h1;subst k1;subst k3;subst this;rw[h1]
 ·have hno:∀e∈S,e.key.py≠E.key.py:=λe he z=>hex (by
   obtain⟨i,hi⟩:=FD.mp he;exact⟨i,e,hi,bl9 (hlS e he) hlE z⟩)
  have hl:E7 (S.mapIdx λi e=>(e.key.py,D.int i)) E.key.py=AD:=by rw[hidx];exact a78 S E.key 0 hno
  rw[hl];∎;refine .inl ⟨rfl,?_⟩;rfl';∎;have hc:∀f∈[("numbers":Str),("stored":Str),("parts":Str),("waiting":Str)],f∈G.cls "Shelf":=λf hf=>by rw[T.cls];exact hf
  refine⟨sh,"Shelf",_,.ref sa,rfl,A.ins,hc _ ∎,rfl,?_⟩;rw[z0 (.inl A.sto),AT];∎;refine⟨sh,"Shelf",_,.ref dn,rfl,A.ins,hc _ ∎,rfl,?_⟩;rw[hk];refine⟨_,A.num,hkey,C4 (by rw[List.length_mapIdx];lia),?_⟩;rw[<-hk];simp only[BU,AK,Aa,or_false,not_or]at hd;obtain⟨⟨d1,d2,d3⟩,⟨d4,d5⟩,d6,_⟩:=hd;have hput:Y7 (S.mapIdx λi e=>(e.key.py,D.int i)) E.key.py (.int S.length)=(S++[E]).mapIdx λi e=>(e.key.py,D.int i):=by
   unfold Y7;rw[if_neg,List.mapIdx_append]
   ·simp
   ·rw[Bool.not_eq_true,FI];intro x hx;rw[List.mem_mapIdx]at hx;obtain⟨i,hi,rfl⟩:=hx;simpa using hno _ (JU hi)
  rw[hput];have a1:∀u,c9 st dn u sh=AA (.ins "Shelf" [(("numbers":Str),D.ref dn),(("stored":Str),D.ref sa),(("parts":Str),D.ref pa),(("waiting":Str),D.ref wa)]):=λu=>f8 A.ins d1;∎;have n1:=f8 (u:=.dtt ((S++[E]).mapIdx λi e=>(e.key.py,D.int i))) A.sto (λz=>d4 z.symm);have n2:=f8 (u:=.dtt ((S++[E]).mapIdx λi e=>(e.key.py,D.int i))) A.par (λz=>d5 z.symm);have n0:c9 st dn (.dtt ((S++[E]).mapIdx λi e=>(e.key.py,D.int i))) dn=_:=f6;have a0:=a1 (.dtt ((S++[E]).mapIdx λi e=>(e.key.py,D.int i)));have nw:∃o,c9 st dn (.dtt ((S++[E]).mapIdx λi e=>(e.key.py,D.int i))) wa=AA o:=by
   by_cases z:wa=dn
   ·exact⟨_,by rw[z];exact f6⟩
   ·obtain⟨o,e⟩:=A.wai;exact⟨o,f8 e z⟩
  have K0:Kp [dn,sa,pa] st (c9 st dn (.dtt ((S++[E]).mapIdx λi e=>(e.key.py,D.int i)))):=Kp.refl.put ∎;revert n1 n2 n0 a0 nw K0;generalize c9 st dn (.dtt ((S++[E]).mapIdx λi e=>(e.key.py,D.int i)))=st1;intro n1 n2 n0 a0 nw K0;refine⟨sh,"Shelf",_,.ref sa,rfl,a0,hc _ ∎,rfl,by rw[u0 (.inl n1)];trivial,.inl ⟨_,rfl,by simp only[AT];lia,?_⟩⟩;refine F9 (λl acc env' st'=>st'=st1/\∃(pre suf:List Nat)(x:Option D),ns=pre++suf/\l=suf.map (λ(n:Nat)=>D.int (n:Int))/\acc=inn.take pre.length/\env'=[AA (.ref sh),x]) ?_ ?_ _ _ _ _ ⟨rfl,[],ns,AD,rfl,rfl,∎,rfl⟩
  ·rintro acc env' st' ⟨rfl,pre,suf,x,e,el,rfl,rfl⟩;have:suf=[]:=by simpa using el.symm
   subst this;rw[Ao]at e;subst e;rw[<-hlen,Eo];refine⟨trivial,λp hp=>⟨p9 ⋯,?_⟩⟩;have g1:=i7 (u:=.lst inn) n1 hp;rw[C6 g1];refine⟨C4 (by rw[AT];lia),?_⟩;have g2:=f8 (u:=.lst (S.map It3.t++[.tup (fr++inn)])) (i7 (u:=.lst inn) n2 hp) (λz=>d6 z.symm);have g3:=f8 (u:=.lst (S.map It3.t++[.tup (fr++inn)])) (i7 (u:=.lst inn) n0 hp) d4;have g4:=f8 (u:=.lst (S.map It3.t++[.tup (fr++inn)])) (i7 (u:=.lst inn) a0 hp) d2;have g5:c9 (c9 st' p (.lst inn)) sa (.lst (S.map It3.t++[.tup (fr++inn)])) sa=_:=f6;have gw:∃o,c9 (c9 st' p (.lst inn)) sa (.lst (S.map It3.t++[.tup (fr++inn)])) wa=AA o:=by
    by_cases z:wa=sa
    ·exact⟨_,by rw[z];exact f6⟩
    ·obtain⟨o,e⟩:=nw;exact⟨o,f8 (i7 e hp) z⟩
   have K1:Kp [dn,sa,pa] st (c9 (c9 st' p (.lst inn)) sa (.lst (S.map It3.t++[.tup (fr++inn)]))):=(K0.new hp).put ∎;revert g2 g3 g4 g5 gw K1;generalize c9 (c9 st' p (.lst inn)) sa (.lst (S.map It3.t++[.tup (fr++inn)]))=st2;intro g2 g3 g4 g5 gw K1;∎;refine⟨sh,"Shelf",_,.ref pa,rfl,g4,hc _ ∎,rfl,by rw[u0 (.inl g2)];trivial,?_⟩;rw[C6 g2];refine⟨C4 (by rw[AT];lia),?_⟩;rfl';∎;refine f7 (q S.length (S++[E]) _ ⟨f8 g4 d3,f8 g3 d5,?_,?_,?_,⟨λi e hi=>?_,?_⟩,by simp;lia,λe he=>?_⟩ (List.prefix_append S [E]) ∎ (by rw[Au (Ab _),Nat.sub_self,hE];rfl) (K1.put ∎))
   ·rw[Ae,hE];exact f8 g5 d6
   ·rw[f6,Ae,hE];rfl
   ·by_cases z:wa=pa
    ·exact⟨_,by rw[z];exact f6⟩
    ·obtain⟨o,e⟩:=gw;exact⟨o,f8 e z⟩
   ·by_cases hil:i<S.length
    ·rw[Ag hil]at hi;obtain⟨h1,inn',h2,h3,h4⟩:=A.wf.wh i e hi;refine⟨h1,inn',h2,h3,λj n hj=>?_⟩;obtain⟨l1,e',he',g⟩:=h4 j n hj;exact⟨l1,e',by rw[Ag ⋯];exact he',g⟩
    ·rw[Au ⋯]at hi;have hi0:i-S.length=0:=by have:=(AX.mp hi).1;simp at this;lia
     rw[hi0]at hi;simp at hi;subst hi;rw[hE];refine⟨hfr,inn,rfl,hlen,λj n hj=>?_⟩;obtain⟨e',he',g⟩:=hns j n hj;have:=(AX.mp he').1;exact⟨⋯,e',by rw[Ag this];exact he',g⟩
   ·rw[Ae,Cr];refine⟨A.wf.nd,∎,λx hx y hy z=>?_⟩;simp at hy;subst hy;obtain⟨e,he,rfl⟩:=Aq.mp hx;exact hno e he (by rw[z])
   ·rcases Ap.mp he with he|he
    ·exact A.fl e he
    ·rw[Am]at he;subst he;rw[hE];exact⟨b1,b2⟩
  ·rintro d ds acc env' st' ih ⟨rfl,pre,suf,x,e,el,rfl,rfl⟩;refine⟨trivial,?_⟩;cases suf with
   |nil=>simp at el
   |cons m suf=>
    simp only[AZ,AY]at el;obtain⟨rfl,rfl⟩:=el;obtain⟨e',he',g⟩:=hns pre.length m (by rw[e];simp);rfl';refine⟨sh,"Shelf",_,.ref sa,rfl,a0,hc _ ∎,rfl,?_⟩;rw[n8 (.inl n1)];refine⟨e'.t,by rw[E1,Aj,he'];rfl,ih _ _ _ ⟨rfl,pre++[m],suf,_,by rw[e];simp,rfl,?_,rfl⟩⟩;rw[Ac,AW,BK,List.take_add_one,g];rfl
end
section
variable (T:PSh P G)
include T
omit T in
theorem ShA.keepL{S:List It3}(A:ShA sh dn sa pa wa S st)(K:Kp L st st')(h:∀x∈L,x∉[sh,dn,sa,pa,wa]):ShA sh dn sa pa wa S st':=
 ⟨K.at' A.ins (λz=>h _ z ∎),K.at' A.num (λz=>h _ z ∎),K.at' A.sto (λz=>h _ z ∎),K.at' A.par (λz=>h _ z ∎),(by obtain⟨o,e⟩:=A.wai;exact⟨o,K.at' e (λz=>h _ z ∎)⟩),A.wf,A.ml,A.fl⟩
omit T in
end
abbrev Has(S:List It3)(t:D):Prop:=∃(m:Nat)(e:It3),S[m]?=AA e/\e.t=t
open Classical in
abbrev nb(S:List It3)(t:D):Nat:=if h:Has S t then Classical.choose h else 0
def X6{S}{t}(h:Has S t):∃e,S[nb S t]?=AA e/\e.t=t:=by
 unfold nb;rw[dif_pos h];exact Classical.choose_spec h
def av7{S}(w:Wf S){e}{t}(h:S[m]?=AA e)(ht:e.t=t):nb S t=m:=by
 obtain⟨e',h1,h2⟩:=X6 ⟨m,e,h,ht⟩;exact w.inj _ (Ab _) h1 h (h2.trans ht.symm)
def Has.mono{S:List It3}{t:D}(h:Has S t)(hp:S <+: S'):Has S' t:=by
 obtain⟨m,e,h1,h2⟩:=h;obtain⟨r,rfl⟩:=hp;exact⟨m,e,by rw[Ag (AX.mp h1).1];exact h1,h2⟩
def bm2{S:List It3}(w:Wf S){inn:List D}(h:Has S (.tup (fr++inn)))(h1:∀d∈fr,∃s:String,d=.str s)(h2:∀d∈inn,∃l,d=.tup l):(∀d∈inn,Has S d)/\∃e,S[nb S (.tup (fr++inn))]?=AA e/\e.ns=inn.map (nb S):=by
 obtain⟨e,he,ht⟩:=X6 h;obtain⟨inn',g1,g2,g3,g4⟩:=w.inn he;have hh:e.fr++inn'=fr++inn:=by simp_all
 obtain⟨_,rfl⟩:=bf5 (w.wh _ e he).1 h1 g3 h2 hh;refine⟨λd hd=>?_,e,he,?_⟩
 ·obtain⟨j,hj⟩:=FD.mp hd;have hjl:j<e.ns.length:=by rw[<-g2];exact(AX.mp hj).1
  obtain⟨_,e',he',hi⟩:=g4 j _ (AM hjl);rw[hj]at hi;cases hi;exact⟨_,e',he',rfl⟩
 ·refine HE λj=>?_
  by_cases hj:j<e.ns.length
  ·obtain⟨_,e',he',hi⟩:=g4 j _ (AM hj);rw[AM hj,Aj,hi];show AA _=AA (nb S e'.t);rw[av7 w he' rfl]
  ·rw[Bu ⋯,Bu (by rw[AT];lia)]
def ay4{w:String}:∀d∈([.str w]:List D),∃s:String,d=.str s:=λd hd=>by simp at hd;subst hd;exact⟨w,rfl⟩
def cy6:∀k:Kd,∃l,k.d=.tup l
 |.non=>⟨_,rfl⟩
 |.one=>⟨_,rfl⟩
 |.eith _ _=>⟨_,rfl⟩
 |.both _ _=>⟨_,rfl⟩
 |.way _ _=>⟨_,rfl⟩
section
variable (T:PSh P G)
include T
def b01{S}(A:ShA sh dn sa pa wa S st){inn}(h:Has S (.tup (fr++inn)))(h1:∀d∈fr,∃s:String,d=.str s)(h2:∀d∈inn,∃l,d=.tup l)(q:Q (C7 (inn.map (nb S))) st):sem P G (n+1) (f9 "Shelf" "within") [.ref sh,.int (nb S (.tup (fr++inn)):Nat)] st Q:=by
 obtain⟨_,e,he,hn⟩:=bm2 A.wf h h1 h2;refine i5 T.wthn rfl [AA (.ref sh),AA (.int (nb S (.tup (fr++inn)):Nat))] rfl ?_;∎;refine⟨sh,"Shelf",_,.ref pa,rfl,A.ins,by rw[T.cls];simp,rfl,?_⟩;rw[n8 (.inl A.par)];refine⟨C7 e.ns,by rw[E1,Aj,he];rfl,f7 ?_⟩;rw[hn];exact q
def b52{S}(A:ShA sh dn sa pa wa S st){t}(h:Has S t)(q:Q t st):sem P G (n+1) (f9 "Shelf" "tuple_at") [.ref sh,.int (nb S t:Nat)] st Q:=by
 obtain⟨e,he,ht⟩:=X6 h;refine i5 T.tup rfl [AA (.ref sh),AA (.int (nb S t:Nat))] rfl ?_;∎;refine⟨sh,"Shelf",_,.ref sa,rfl,A.ins,by rw[T.cls];simp,rfl,?_⟩;rw[n8 (.inl A.sto)];exact⟨t,by rw[E1,Aj,he,<-ht];rfl,f7 q⟩
def bh0{S}(A:ShA sh dn sa pa wa S st){d}{r}(h:Has S (.tup (d::r)))(q:Q d st):sem P G (n+1) (f9 "Shelf" "word_at") [.ref sh,.int (nb S (.tup (d::r)):Nat)] st Q:=by
 obtain⟨e,he,ht⟩:=X6 h;refine i5 T.word rfl [AA (.ref sh),AA (.int (nb S (.tup (d::r)):Nat))] rfl ?_;∎;refine⟨sh,"Shelf",_,.ref sa,rfl,A.ins,by rw[T.cls];simp,rfl,?_⟩;rw[n8 (.inl A.sto)];refine⟨.tup (d::r),by rw[E1,Aj,he,<-ht];rfl,?_⟩;rfl';exact f7 q
def by9(h0:st sh=AD)(q:∀dn sa pa wa st',ShA sh dn sa pa wa [] st'->[sh,dn,sa,pa].Nodup->(∀a∈[sh,dn,sa,pa,wa],st a=AD)->wa∉[dn,sa,pa]->wa≠sh->st' wa=AA (.lst [])->Kp [] st st'->Q .non st'):sem P G (n+1) (f9 "Shelf" "__init__") [.ref sh] (c9 st sh (.ins "Shelf" [])) Q:=by
 refine i5 T.init rfl [AA (.ref sh)] rfl ?_;have hc:∀f∈([("numbers":Str),("stored":Str),("parts":Str),("waiting":Str)]:List Str),f∈G.cls "Shelf":=λf hf=>by rw[T.cls];exact hf
 ∎;refine⟨T.kt,λdn hdn=>⟨sh,"Shelf",[],rfl,i7 f6 hdn,hc _ ∎,∅,?_⟩⟩;have n1:sh≠dn:=j9 f6 hdn;have d0:st dn=AD:=by rw[G1 n1.symm]at hdn;exact hdn
 have kS:∀{st':Sto}{u:Ob},Kp [] st st'->Kp [] st (c9 st' sh u):=λK b o nb e=>f8 (K b o nb e) (j9 e h0);have a1:c9 (c9 (c9 st sh (.ins "Shelf" [])) dn (.dtt [])) sh (.ins "Shelf" (l9 "numbers" (.ref dn) [])) sh=AA (.ins "Shelf" [(("numbers":Str),D.ref dn)]):=by rw[f6];rfl
 have a2:c9 (c9 (c9 st sh (.ins "Shelf" [])) dn (.dtt [])) sh (.ins "Shelf" (l9 "numbers" (.ref dn) [])) dn=AA (.dtt []):=f8 f6 n1.symm;have K1:Kp [] st (c9 (c9 (c9 st sh (.ins "Shelf" [])) dn (.dtt [])) sh (.ins "Shelf" (l9 "numbers" (.ref dn) []))):=kS ((kS Kp.refl).new hdn);revert a1 a2 K1;generalize c9 (c9 (c9 st sh (.ins "Shelf" [])) dn (.dtt [])) sh (.ins "Shelf" (l9 "numbers" (.ref dn) []))=s1;intro a1 a2 K1;∎;refine λsa hsa=>⟨sh,"Shelf",_,rfl,i7 a1 hsa,hc _ ∎,∎,?_⟩;have n2:sh≠sa:=j9 a1 hsa;have n3:dn≠sa:=j9 a2 hsa;have b1:c9 (c9 s1 sa (.lst [])) sh (.ins "Shelf" (l9 "stored" (.ref sa) [(("numbers":Str),D.ref dn)])) sh=AA (.ins "Shelf" [(("numbers":Str),D.ref dn),(("stored":Str),D.ref sa)]):=by rw[f6];simp[l9,p5]
 have b2:c9 (c9 s1 sa (.lst [])) sh (.ins "Shelf" (l9 "stored" (.ref sa) [(("numbers":Str),D.ref dn)])) dn=AA (.dtt []):=f8 (i7 a2 hsa) n1.symm;have b3:c9 (c9 s1 sa (.lst [])) sh (.ins "Shelf" (l9 "stored" (.ref sa) [(("numbers":Str),D.ref dn)])) sa=AA (.lst []):=f8 f6 n2.symm;have K2:Kp [] st (c9 (c9 s1 sa (.lst [])) sh (.ins "Shelf" (l9 "stored" (.ref sa) [(("numbers":Str),D.ref dn)]))):=kS (K1.new hsa);have s0:st sa=AD:=none_of K1 hsa;revert b1 b2 b3 K2;generalize c9 (c9 s1 sa (.lst [])) sh (.ins "Shelf" (l9 "stored" (.ref sa) [(("numbers":Str),D.ref dn)]))=s2;intro b1 b2 b3 K2;∎;refine λpa hpa=>⟨sh,"Shelf",_,rfl,i7 b1 hpa,hc _ ∎,∎,?_⟩;have n4:sh≠pa:=j9 b1 hpa;have n5:dn≠pa:=j9 b2 hpa;have n6:sa≠pa:=j9 b3 hpa;have c1:c9 (c9 s2 pa (.lst [])) sh (.ins "Shelf" (l9 "parts" (.ref pa) [(("numbers":Str),D.ref dn),(("stored":Str),D.ref sa)])) sh=AA (.ins "Shelf" [(("numbers":Str),D.ref dn),(("stored":Str),D.ref sa),(("parts":Str),D.ref pa)]):=by rw[f6];simp[l9,p5]
 have c2:c9 (c9 s2 pa (.lst [])) sh (.ins "Shelf" (l9 "parts" (.ref pa) [(("numbers":Str),D.ref dn),(("stored":Str),D.ref sa)])) dn=AA (.dtt []):=f8 (i7 b2 hpa) n1.symm;have c3:c9 (c9 s2 pa (.lst [])) sh (.ins "Shelf" (l9 "parts" (.ref pa) [(("numbers":Str),D.ref dn),(("stored":Str),D.ref sa)])) sa=AA (.lst []):=f8 (i7 b3 hpa) n2.symm;have c4:c9 (c9 s2 pa (.lst [])) sh (.ins "Shelf" (l9 "parts" (.ref pa) [(("numbers":Str),D.ref dn),(("stored":Str),D.ref sa)])) pa=AA (.lst []):=f8 f6 n4.symm;have K3:Kp [] st (c9 (c9 s2 pa (.lst [])) sh (.ins "Shelf" (l9 "parts" (.ref pa) [(("numbers":Str),D.ref dn),(("stored":Str),D.ref sa)]))):=kS (K2.new hpa);have p0:st pa=AD:=none_of K2 hpa;revert c1 c2 c3 c4 K3;generalize c9 (c9 s2 pa (.lst [])) sh (.ins "Shelf" (l9 "parts" (.ref pa) [(("numbers":Str),D.ref dn),(("stored":Str),D.ref sa)]))=s3;intro c1 c2 c3 c4 K3;∎;refine λwa hwa=>⟨sh,"Shelf",_,rfl,i7 c1 hwa,hc _ ∎,∎,?_⟩;have n7:sh≠wa:=j9 c1 hwa;refine be6 (q dn sa pa wa _ ⟨by rw[f6];simp[l9,p5],f8 (i7 c2 hwa) n1.symm,f8 (i7 c3 hwa) n2.symm,f8 (i7 c4 hwa) n4.symm,⟨_,f8 f6 n7.symm⟩,⟨∎,∎⟩,∎,∎⟩ ?_ ?_ ?_ n7.symm (f8 f6 n7.symm) (kS (K3.new hwa)))
 ·simp[n1,n2,n4,n3,n5,n6]
 ·intro a ha;simp only[AK,Aa,or_false]at ha
  rcases ha with rfl|rfl|rfl|rfl|rfl
  ·exact h0
  ·exact d0
  ·exact s0
  ·exact p0
  ·exact none_of K3 hwa
 ·simp only[AK,Aa,or_false,not_or];exact⟨(j9 c2 hwa).symm,(j9 c3 hwa).symm,(j9 c4 hwa).symm⟩
end
abbrev c57:List (Str×D):=[("name",.int 2),("star",.int 1),("pair",.int 1),("first",.int 1),("second",.int 1),("left",.int 2),("right",.int 2),("case",.int 1),("way",.int 2),("give",.int 1),("let",.int 1),("never",.int 2)]
abbrev c50:List (Str×D):=[("case",.ktup [1,2]),("way",.ktup [0]),("let",.ktup [1])]
abbrev Pg.more:Pg->Nat->Nat
 |.case _ _ _,i=>if i=1\/i=2 then 1 else 0
 |.way _ _,i=>if i=0 then 1 else 0
 |.lets _ _,i=>if i=1 then 1 else 0
 |_,_=>0
def Pg.parts_kids(p:Pg):p.parts=1+(p.kids.map Pg.parts).sum:=by
 cases p<;>simp only[Pg.parts,Pg.kids,AZ,CG,Dt,HB]<;>lia
def Pg.kn_kids(p:Pg)(h:p.kn m):∀c∈p.kids,c.kn m:=by
 cases p<;>simp only[Pg.kn,Pg.kids,AK,Aa,or_false,false_imp_iff,implies_true,forall_eq_or_imp,forall_eq]at h ⊢<;>first|exact h|exact h.2
structure PIn(P:i9)(G:Gs):Prop where
 inner:P "inner"=AA as7
 more:P "names_more"=AA ao2
 tab:G.tab "INNER_FROM"=c57
 tab2:G.tab "UNDER_ONE_MORE"=c50
structure PNm(P:i9)(G:Gs):Prop extends PM P G,PIn P G where
 winner:P "with_inner"=AA d_with_inner
 lift:P "lifted"=AA d_lifted
 put:P "put_in"=AA d_put_in
 copy:P "copy_under"=AA d_copy_under
 wparts:P "with_parts"=AA d_with_parts
 under:P "inner_under"=AA d_inner_under
section
variable (J:PIn P G) 
include J
def bz7(p:Pg)(q:∀a,st a=AD->Q (.ref a) (c9 st a (.lst (p.kids.map Pg.d)))):sem P G (n+1) "inner" [p.d] st Q:=by
 refine i5 J.inner rfl [AA p.d] rfl ?_;cases p<;>simp only[Pg.d]
 all_goals
  ∎;refine⟨by show G.tab "INNER_FROM"≠[];rw[J.tab];exact λz=>(by cases z),?_⟩;simp only[J.tab];refine⟨_,rfl,_,rfl,∅,λa ha=>f7 (q a ha)⟩
def be4(p:Pg)(i:Nat)(q:Q (.int (p.more i:Nat)) st):sem P G (n+1) "names_more" [p.d,.int i] st Q:=by
 refine i5 J.more rfl [AA p.d,AA (.int i)] rfl ?_;cases p<;>simp only[Pg.d]
 all_goals
  ∎;refine⟨by show G.tab "UNDER_ONE_MORE"≠[];rw[J.tab2];exact λz=>(by cases z),?_⟩;simp only[J.tab2];refine⟨_,rfl,?_⟩
 case case=>
  show o8 .In (.int i) (.ktup [1,2]) _ _;rw[aw7];rfl'
  by_cases h:i=1\/i=2
  ·rw[if_pos (by simp;lia)];simp only[Pg.more,if_pos h]at q;exact f7 q
  ·rw[if_neg (by simp;lia)];simp only[Pg.more,if_neg h]at q;exact f7 q
 case way=>
  show o8 .In (.int i) (.ktup [0]) _ _;rw[aw7];rfl'
  by_cases h:i=0
  ·rw[if_pos (by simp;lia)];simp only[Pg.more,if_pos h]at q;exact f7 q
  ·rw[if_neg (by simp;lia)];simp only[Pg.more,if_neg h]at q;exact f7 q
 case lets=>
  show o8 .In (.int i) (.ktup [1]) _ _;rw[aw7];rfl'
  by_cases h:i=1
  ·rw[if_pos (by simp;lia)];simp only[Pg.more,if_pos h]at q;exact f7 q
  ·rw[if_neg (by simp;lia)];simp only[Pg.more,if_neg h]at q;exact f7 q
 all_goals
  show o8 .In (.int i) (.tup []) _ _;refine⟨rfl,rfl,Bx _,?_⟩;rfl';exact f7 q
end
structure PKd(P:i9)(G:Gs):Prop extends PSh P G where
 lkd:P (f9 "Shelf" "laid_kind")=AA aa1
 blt:P (f9 "Shelf" "built")=AA ao0
 ptb:P (f9 "Shelf" "put_by")=AA am9
 tku:P (f9 "Shelf" "taken_up")=AA al0
 dfl:E5 G.cls (f9 "Shelf" "laid_kind")=AA 3
structure ShD(sh dn sa pa wa:AH):Prop where
 nd:[sh,dn,sa,pa].Nodup
 wd:wa∉[dn,sa,pa]
 ws:wa≠sh
@[reducible]noncomputable def shL(sh dn sa pa wa:AH):List AH:=[sh,dn,sa,pa,wa]
def T5{S}{t}(w:Wf S')(h:Has S t)(hp:S <+: S'):nb S' t=nb S t:=by
 obtain⟨e,h1,h2⟩:=X6 h;obtain⟨l,rfl⟩:=hp;exact av7 w (Ag (AX.mp h1).1▸h1) h2
section
variable (T:PKd P G) {S:List It3} {wo:Ob}
include T
def at9{w:String}{inn:List D}(A:ShA sh dn sa pa wa S st)(D0:ShD sh dn sa pa wa)(hw:st wa=AA wo)(hi:∀d∈inn,Has S d)(hl:inn.length<=1000)(hS:S.length<900000)
  (q:∀S' st',Has S' (.tup (.str w::inn))->S <+: S'->S'.length<=S.length+1->ShA sh dn sa pa wa S' st'->st' wa=AA wo->Kp (shL sh dn sa pa wa) st st'->Q (.int (nb S' (.tup (.str w::inn)):Nat)) st'):sem P G (n+1) (f9 "Shelf" "numbered") [.ref sh,.tup [.str w],C7 (inn.map (nb S))] st Q:=by
 refine bt1 T.toPSh A D0.nd (fr:=[.str w]) (inn:=inn) (ns:=inn.map (nb S)) ay4 ∎ (λj m hm=>?_) ∎ (by simp_all) ⋯ λm S' st' A' hp hl' hm K=>?_
 ·rw[Aj]at hm;cases e:inn[j]? with
  |none=>rw[e]at hm;cases hm
  |some d=>
   rw[e]at hm;cases hm;obtain⟨e',h1,h2⟩:=X6 (hi d (At e));exact⟨e',h1,by rw[h2]⟩
 ·have hn:=av7 A'.wf hm (t:=.tup (.str w::inn)) rfl;rw[<-hn];exact q S' st' ⟨m,_,hm,rfl⟩ hp hl' A' (K.at' hw D0.wd) (K.more ∎)
def aa4{w:String}(A:ShA sh dn sa pa wa S st)(D0:ShD sh dn sa pa wa)(hw:st wa=AA wo)(ha:Has S a.d)(hb:Has S b.d)(hS:S.length<900000)
  (q:∀S' st',Has S' (.tup [.str w,a.d,b.d])->S <+: S'->S'.length<=S.length+1->ShA sh dn sa pa wa S' st'->st' wa=AA wo->Kp (shL sh dn sa pa wa) st st'->Q (.int (nb S' (.tup [.str w,a.d,b.d]))) st'):sem P G (n+2) (f9 "Shelf" "built") [.ref sh,.str w,.int (nb S a.d),.int (nb S b.d:Nat)] st Q:=by
 refine i5 T.blt rfl [AA (.ref sh),AA (.str w),AA (.int (nb S a.d:Nat)),AA (.int (nb S b.d))] rfl ?_;∎;refine⟨sh,"Shelf",_,rfl,A.ins,rfl,by rw[T.numb];rfl,?_⟩;exact at9 T A D0 hw (by simp[ha,hb]) ∎ hS λS' st' h1 h2 h3 h4 h5 h6=>f7 (q S' st' h1 h2 h3 h4 h5 h6)
abbrev LdQ(sh dn sa pa wa:AH)(S:List It3)(wo:Ob)(st:Sto)(k:Kd)(Q:DK):Prop:=∀S' st',Has S' k.d->S <+: S'->S'.length<=S.length+k.size->ShA sh dn sa pa wa S' st'->st' wa=AA wo->Kp (shL sh dn sa pa wa) st st'->Q (.int (nb S' k.d:Nat)) st'
abbrev LkS(P:i9)(G:Gs)(sh dn sa pa wa:AH)(wo:Ob)(k:Kd):Prop:=∀(deep:Nat){n:Nat}{st:Sto}{Q:DK}{S:List It3},deep+8<=n->k.nest<=deep->ShA sh dn sa pa wa S st->ShD sh dn sa pa wa->st wa=AA wo->S.length+k.size<=900000->LdQ sh dn sa pa wa S wo st k Q->sem P G n (f9 "Shelf" "laid_kind") [.ref sh,k.d,.int deep] st Q
def bj9{w:String}{k:Kd}(ek:k.d=.tup [.str w])(h1:k.size=1):LkS P G sh dn sa pa wa wo k:=by
 intro deep n st Q S hn _ A D0 hw hS q;unfold LdQ at q;rw[ek,h1]at q;rw[ek];obtain⟨n,rfl⟩:∃m,n=m+2:=⟨n-2,⋯⟩;refine i5 T.lkd rfl [AA (.ref sh),AA (.tup [.str w]),AA (.int deep)] rfl ?_;∎;∎;refine⟨sh,"Shelf",_,rfl,A.ins,rfl,by rw[T.numb];rfl,?_⟩;exact at9 T (inn:=[]) A D0 hw ∎ ∎ ⋯ λS' st' h1 h2 h3 h4 h5 h6=>f7 (q S' st' h1 h2 h3 h4 h5 h6)
def cq9{w:String}{k:Kd}(ek:k.d=.tup [.str w,a.d,b.d])(h1:k.nest=1+max a.nest b.nest)(h2:k.size=1+(a.size+b.size))(iha:LkS P G sh dn sa pa wa wo a)(ihb:LkS P G sh dn sa pa wa wo b):LkS P G sh dn sa pa wa wo k:=by
 intro deep n st Q S hn hd A D0 hw hS q;unfold LdQ at q;rw[ek,h2]at q;rw[ek];obtain⟨n,rfl⟩:∃m,n=m+3:=⟨n-3,⋯⟩;refine i5 T.lkd rfl [AA (.ref sh),AA (.tup [.str w,a.d,b.d]),AA (.int deep)] rfl ?_;unfold aa1;∎;∎;have h0:¬(deep:Int)=0:=by lia
 obtain⟨deep,rfl⟩:∃m,deep=m+1:=⟨deep-1,⋯⟩;have ed:((deep+1:Nat):Int)-1=(deep:Nat):=by lia
 ∎;refine⟨sh,"Shelf",_,rfl,A.ins,rfl,by rw[T.blt];rfl,sh,"Shelf",_,rfl,A.ins,rfl,by rw[T.lkd];rfl,?_⟩;rw[ed];refine iha deep ⋯ ⋯ A D0 hw ⋯ λS1 st1 a1 a2 a3 A1 a5 a6=>?_;rfl';refine⟨sh,"Shelf",_,rfl,A1.ins,rfl,by rw[T.lkd];rfl,?_⟩;refine ihb deep ⋯ ⋯ A1 D0 a5 ⋯ λS2 st2 b1 b2 b3 A2 b5 b6=>?_;rfl';rw[<-T5 A2.wf a1 b2];exact aa4 T A2 D0 b5 (a1.mono b2) b1 ⋯ λS3 st3 c1 c2 c3 c4 c5 c6=>f7 (q S3 st3 c1 ((a2.trans b2).trans c2) ⋯ c4 c5 ((a6.trans b6).trans c6))
def b43 k:LkS P G sh dn sa pa wa wo k:=by
 induction k with
 |non=>exact bj9 T rfl rfl
 |one=>exact bj9 T rfl rfl
 |eith a b iha ihb|both a b iha ihb|way a b iha ihb=>exact cq9 T rfl rfl (EV _ _ _) iha ihb
end
def Y0{k:Kd}(h:k.nest<=3):k.size<=127:=by
 have:=aq0 k;have:2^(k.nest+1)<=2^4:=BX ∅ ⋯;lia
abbrev D5(S:List It3)(w:Kd×Bool):D:=.tup [w.1.d,if w.2=AC then .int (nb S w.1.d:Nat)else .non]
structure KA(sh dn sa pa wa:AH)(S:List It3)(ws:List (Kd×Bool))(st:Sto):Prop where
 A:ShA sh dn sa pa wa S st
 D0:ShD sh dn sa pa wa
 W:st wa=AA (.lst (ws.map (D5 S)))
 H:∀w∈ws,w.2=AC->Has S w.1.d
 N:∀w∈ws,w.1.nest<=3
 L:ws.length<=2000
section
variable {S:List It3} 
def cc3(w':Wf S')(hp:S <+: S'){w}(h:w.2=AC->Has S w.1.d):D5 S' w=D5 S w:=by
 unfold D5
 by_cases hb:w.2=AC
 ·rw[if_pos hb,if_pos hb,T5 w' (h hb) hp]
 ·rw[if_neg hb,if_neg hb]
def KA.up(k:KA sh dn sa pa wa S ws st)(A':ShA sh dn sa pa wa S' st')(hp:S <+: S')(hw:st' wa=AA (.lst (ws.map (D5 S)))):KA sh dn sa pa wa S' ws st':=
 ⟨A',k.D0,(hw▸congrArg (λl=>AA (Ob.lst l)) (FX λw hm=>(cc3 A'.wf hp (k.H w hm)).symm)),λw hm hb=>(k.H w hm hb).mono hp,k.N,k.L⟩
theorem KA.keepL(k:KA sh dn sa pa wa S ws st)(K:Kp L st st')(h:∀x∈L,x∉shL sh dn sa pa wa):KA sh dn sa pa wa S ws st':=
 ⟨k.A.keepL K h,k.D0,K.at' k.W (λz=>h wa z ∎),k.H,k.N,k.L⟩
def KA.keep(k:KA sh dn sa pa wa S ws st)(K:Kp [] st st'):=k.keepL K ∎
abbrev En(S:List It3)(ws:List (Kd×Bool))(e:Int)(k:Kd):Prop:=(e=(nb S k.d:Nat)/\Has S k.d)\/∃(j:Nat)(b:Bool),e=-((j:Int)+1)/\ws[j]?=AA (k,b)
abbrev WUp(ws ws':List (Kd×Bool)):Prop:=ws'.map (·.1)=ws.map (·.1)
def En.up{e:Int}{k:Kd}(h:En S ws e k)(w':Wf S')(hp:S <+: S')(hw:WUp ws ws'):En S' ws' e k:=by
 rcases h with⟨rfl,h⟩|⟨j,b,rfl,h⟩
 ·exact .inl ⟨by rw[T5 w' h hp],h.mono hp⟩
 ·have e1:(ws'.map (·.1))[j]?=AA k:=by rw[hw,Aj,h];rfl
  rw[Aj]at e1;cases e2:ws'[j]? with
  |none=>simp_all
  |some x=>
   rw[e2]at e1;cases e1;exact .inr ⟨j,x.2,rfl,e2⟩
structure KnOk(S:List It3)(ws:List (Kd×Bool))(Γ:List Kd)(kn:List Int):Prop where
 len:kn.length=Γ.length
 at':∀(m:Nat)k,Γ[m]?=AA k->∃e,kn.reverse[m]?=AA e/\En S ws e k
theorem KnOk.up{kn}(h:KnOk S ws Γ kn)(w':Wf S')(hp:S <+: S')(hw:WUp ws ws'):KnOk S' ws' Γ kn:=
 ⟨h.len,λm k hk=>let⟨e,h1,h2⟩:=h.at' m k hk;⟨e,h1,h2.up w' hp hw⟩⟩
def KnOk.cons{kn}{k}{e}(h:KnOk S ws Γ kn)(he:En S ws e k):KnOk S ws (k::Γ) (kn++[e]):=
 ⟨by simp[h.len],λm c hc=>by
  rw[GB];cases m with
  |zero=>cases hc;exact⟨e,rfl,he⟩
  |succ m=>exact h.at' m c hc⟩
theorem WUp.trans{w1 w2 w3}(a:WUp w1 w2)(b:WUp w2 w3):WUp w1 w3:=KS b a
end
section
variable (T:PKd P G) {S:List It3} 
include T
def X0{k:Kd}(hn:11<=n)(k9:k.nest<=3)(K:KA sh dn sa pa wa S ws st)(hS:S.length+k.size<=900000)
  (q:∀S' st',Has S' k.d->S <+: S'->S'.length<=S.length+k.size->KA sh dn sa pa wa S' ws st'->Kp (shL sh dn sa pa wa) st st'->Q (.int (nb S' k.d)) st'):sem P G n (f9 "Shelf" "laid_kind") [.ref sh,k.d,.int 3] st Q:=
 b43 T k 3 ⋯ k9 K.A K.D0 K.W hS λS' st' h1 h2 h3 h4 h5=>q S' st' h1 h2 h3 (K.up h4 h2 h5)
def b13{k:Kd}(K:KA sh dn sa pa wa S ws st)(k9:k.nest<=3)(hl:ws.length<2000)(q:∀st',KA sh dn sa pa wa S (ws++[(k,AF)]) st'->Kp [wa] st st'->Q (.int (-((ws.length:Int)+1))) st'):sem P G (n+1) (f9 "Shelf" "put_by") [.ref sh,k.d] st Q:=by
 refine i5 T.ptb rfl [AA (.ref sh),AA k.d] rfl ?_;unfold am9;have hw:(("waiting":Str))∈G.cls "Shelf":=by rw[T.cls];simp
 ∎;refine⟨sh,"Shelf",_,.ref wa,rfl,K.A.ins,hw,rfl,?_⟩;rw[u0 (.inl K.W)];refine⟨trivial,?_⟩;rw[C6 K.W];refine⟨C4 (by simp only[AT];lia),?_⟩;have K1:Kp [wa] st (c9 st wa (.lst (ws.map (D5 S)++[.tup [k.d,.non]]))):=Kp.refl.put ∎;have W1:c9 st wa (.lst (ws.map (D5 S)++[.tup [k.d,.non]])) wa=AA (.lst ((ws++[(k,AF)]).map (D5 S))):=by rw[f6,Ae];rfl
 have A1:ShA sh dn sa pa wa S (c9 st wa (.lst (ws.map (D5 S)++[.tup [k.d,.non]]))):=by
  have d:=K.D0;have w:=d.wd;simp only[AK,Aa,or_false,not_or]at w;exact⟨f8 K.A.ins (λz=>d.ws z.symm),f8 K.A.num (λz=>w.1 z.symm),f8 K.A.sto (λz=>w.2.1 z.symm),f8 K.A.par (λz=>w.2.2 z.symm),⟨_,f6⟩,K.A.wf,K.A.ml,K.A.fl⟩
 have KK:KA sh dn sa pa wa S (ws++[(k,AF)]) (c9 st wa (.lst (ws.map (D5 S)++[.tup [k.d,.non]]))):=by
  refine⟨A1,K.D0,W1,λw hm hb=>?_,λw hm=>?_,by simp;lia⟩
  ·rcases Ap.mp hm with hm|hm
   ·exact K.H w hm hb
   ·simp at hm;subst hm;cases hb
  ·rcases Ap.mp hm with hm|hm
   ·exact K.N w hm
   ·simp at hm;subst hm;exact k9
 ∎;refine⟨sh,"Shelf",_,.ref wa,rfl,A1.ins,hw,rfl,?_⟩;rw[z0 (.inl W1)];rfl';have e:-(((ws++[(k,AF)]).map (D5 S)).length:Int)=-((ws.length:Int)+1):=by simp
 rw[e];exact f7 (q _ KK K1)
def bw0{k:Kd}{e:Int}(hn:12<=n)(K:KA sh dn sa pa wa S ws st)(h:En S ws e k)(hS:S.length+128<=900000)
  (q:∀S' ws' st',Has S' k.d->S <+: S'->S'.length<=S.length+128->KA sh dn sa pa wa S' ws' st'->WUp ws ws'->Kp (shL sh dn sa pa wa) st st'->Q (.int (nb S' k.d:Nat)) st'):sem P G n (f9 "Shelf" "taken_up") [.ref sh,.int e] st Q:=by
 obtain⟨n,rfl⟩:∃m,n=m+1:=⟨n-1,⋯⟩;refine i5 T.tku rfl [AA (.ref sh),AA (.int e),AD] rfl ?_;have hw:(("waiting":Str))∈G.cls "Shelf":=by rw[T.cls];simp
 ∎
 rcases h with⟨rfl,h⟩|⟨j,b,rfl,h⟩
 ·rw[if_pos ⋯];∎;exact f7 (q S ws st h (DI _) ⋯ K rfl Kp.refl)
 ∎;refine⟨sh,"Shelf",_,.ref wa,rfl,K.A.ins,hw,rfl,?_⟩;have ej:(-1:Int) - -((j:Int)+1)=(j:Nat):=by lia
 rw[ej,n8 (.inl K.W)];refine⟨D5 S (k,b),by rw[E1,Aj,h];rfl,?_⟩;have k9:=K.N _ (At h);have hj:=(AX.mp h).1;cases b with
 |true=>
  have e1:D5 S (k,AC)=.tup [k.d,.int (nb S k.d:Nat)]:=rfl;have hh:=K.H _ (At h) rfl;rw[e1];∎;refine .inr ⟨nofun,?_⟩;rfl';∎;exact f7 (q S ws st hh (DI _) ⋯ K rfl Kp.refl)
 |false=>
  have e1:D5 S (k,AF)=.tup [k.d,.non]:=rfl;rw[e1];∎;refine .inl ?_;∎;refine⟨sh,"Shelf",_,3,rfl,K.A.ins,rfl,by rw[T.lkd];rfl,T.dfl,?_⟩;have hz:k.size<=127:=Y0 (k:=k) k9;refine X0 T ⋯ k9 K ⋯ λS' st' h1 h2 h3 K' K2=>?_;rfl';∎;refine⟨sh,"Shelf",_,.ref wa,rfl,K'.A.ins,hw,rfl,?_⟩;rw[ej];refine⟨wa,(j:Nat),j,_,rfl,rfl,K'.W,?_,?_⟩
  ·unfold ixN;rw[if_pos ⋯,if_pos (by simp;lia)];simp
  have wk:wa∉[dn,sa,pa]/\wa≠sh:=⟨K.D0.wd,K.D0.ws⟩;simp only[AK,Aa,or_false,not_or]at wk;have A3:∀o,ShA sh dn sa pa wa S' (c9 st' wa o):=λo=>⟨f8 K'.A.ins (λz=>wk.2 z.symm),f8 K'.A.num (λz=>wk.1.1 z.symm),f8 K'.A.sto (λz=>wk.1.2.1 z.symm),f8 K'.A.par (λz=>wk.1.2.2 z.symm),⟨_,f6⟩,K'.A.wf,K'.A.ml,K'.A.fl⟩;have el:(ws.map (D5 S')).set j (.tup [k.d,.int (nb S' k.d:Nat)])=(ws.set j (k,AC)).map (D5 S'):=by rw[KU];rfl
  rw[el];∎;refine f7 (q S' (ws.set j (k,AC)) _ h1 h2 ⋯ ⟨A3 _,K.D0,f6,λw hm hb=>?_,λw hm=>?_,by simpa using K.L⟩ ?_ (K2.put ∎))
  ·rcases HU hm with hm|rfl
   ·exact K'.H w hm hb
   ·exact h1
  ·rcases HU hm with hm|rfl
   ·exact K.N w hm
   ·exact k9
  ·unfold WUp;rw[KU];refine HE λi=>?_;rw[GD]
   split
   ·rename_i hi;subst hi;rw[Aj,h,if_pos (by simpa using hj)];rfl
   ·rfl
end
abbrev Pg.kk(Γ:List Kd):Pg->List Kd->Option Kd
 |.name n,[]=>Γ[n]?
 |.star,[]=>AA .one
 |.pair _ _,[a,b]=>AA (.both a b)
 |.first _,[.both a _]=>AA a
 |.second _,[.both _ b]=>AA b
 |.left b _,[a]=>AA (.eith a b)
 |.right a _,[b]=>AA (.eith a b)
 |.case _ _ _,[.eith _ _,k,l]=>if k=l then AA k else AD
 |.way a _,[b]=>AA (.way a b)
 |.give _ _,[.way a b,c]=>if a=c then AA b else AD
 |.lets _ _,[_,k]=>AA k
 |.never k _,[.non]=>AA k
 |_,_=>AD
abbrev Pg.nw:Pg->List Kd->Nat->Option Kd
 |.way a _,_,_=>AA a
 |.lets _ _,ks,_=>ks.head?
 |.case _ _ _,.eith a b::_,i=>AA (if i=1 then a else b)
 |_,_,_=>AD
abbrev Cxt(p:Pg)(ks:List Kd)(i:Nat)(Γ Δ:List Kd):Prop:=(p.more i=0/\Δ=Γ)\/(p.more i=1/\∃a,p.nw ks i=AA a/\Δ=a::Γ)
def Pg.kind_inv{k:Kd}(h:p.kind Γ=AA k):∃ks:List Kd,ks.length=p.kids.length/\p.kk Γ ks=AA k/\∀(i:Nat)c,p.kids[i]?=AA c->∃a Δ,ks[i]?=AA a/\Cxt p (ks.take i) i Γ Δ/\c.kind Δ=AA a:=by
 cases c60 h
 case name=>exact⟨[],rfl,h,λi c hc=>nomatch hc⟩
 case star=>exact⟨[],rfl,h,λi c hc=>nomatch hc⟩
 case first t b h1=>exact⟨[.both k b],rfl,rfl,λi c hc=>match i,hc with
  |0,hc=>by cases hc;exact⟨_,Γ,rfl,.inl ⟨rfl,rfl⟩,h1.kind⟩
  |i+1,hc=>nomatch hc⟩
 case second t a h1=>exact⟨[.both a k],rfl,rfl,λi c hc=>match i,hc with
  |0,hc=>by cases hc;exact⟨_,Γ,rfl,.inl ⟨rfl,rfl⟩,h1.kind⟩
  |i+1,hc=>nomatch hc⟩
 case left t a b h1=>exact⟨[a],rfl,rfl,λi c hc=>match i,hc with
  |0,hc=>by cases hc;exact⟨_,Γ,rfl,.inl ⟨rfl,rfl⟩,h1.kind⟩
  |i+1,hc=>nomatch hc⟩
 case right t a b h1=>exact⟨[b],rfl,rfl,λi c hc=>match i,hc with
  |0,hc=>by cases hc;exact⟨_,Γ,rfl,.inl ⟨rfl,rfl⟩,h1.kind⟩
  |i+1,hc=>nomatch hc⟩
 case never t h1=>exact⟨[.non],rfl,rfl,λi c hc=>match i,hc with
  |0,hc=>by cases hc;exact⟨_,Γ,rfl,.inl ⟨rfl,rfl⟩,h1.kind⟩
  |i+1,hc=>nomatch hc⟩
 case way t a b h1=>exact⟨[b],rfl,rfl,λi c hc=>match i,hc with
  |0,hc=>by cases hc;exact⟨_,a::Γ,rfl,.inr ⟨rfl,a,rfl,rfl⟩,h1.kind⟩
  |i+1,hc=>nomatch hc⟩
 case pair t u a b h1 h2=>exact⟨[a,b],rfl,rfl,λi c hc=>match i,hc with
  |0,hc=>by cases hc;exact⟨_,Γ,rfl,.inl ⟨rfl,rfl⟩,h1.kind⟩
  |1,hc=>by cases hc;exact⟨_,Γ,rfl,.inl ⟨rfl,rfl⟩,h2.kind⟩
  |i+2,hc=>nomatch hc⟩
 case give t u a h2 h1=>exact⟨[.way a k,a],rfl,if_pos rfl,λi c hc=>match i,hc with
  |0,hc=>by cases hc;exact⟨_,Γ,rfl,.inl ⟨rfl,rfl⟩,h1.kind⟩
  |1,hc=>by cases hc;exact⟨_,Γ,rfl,.inl ⟨rfl,rfl⟩,h2.kind⟩
  |i+2,hc=>nomatch hc⟩
 case lets t u a h1 h2=>exact⟨[a,k],rfl,rfl,λi c hc=>match i,hc with
  |0,hc=>by cases hc;exact⟨_,Γ,rfl,.inl ⟨rfl,rfl⟩,h1.kind⟩
  |1,hc=>by cases hc;exact⟨_,a::Γ,rfl,.inr ⟨rfl,a,rfl,rfl⟩,h2.kind⟩
  |i+2,hc=>nomatch hc⟩
 case case t u v a b h1 h2 h3=>exact⟨[.eith a b,k,k],rfl,if_pos rfl,λi c hc=>match i,hc with
  |0,hc=>by cases hc;exact⟨_,Γ,rfl,.inl ⟨rfl,rfl⟩,h1.kind⟩
  |1,hc=>by cases hc;exact⟨_,a::Γ,rfl,.inr ⟨rfl,a,rfl,rfl⟩,h2.kind⟩
  |2,hc=>by cases hc;exact⟨_,b::Γ,rfl,.inr ⟨rfl,b,rfl,rfl⟩,h3.kind⟩
  |i+3,hc=>nomatch hc⟩
abbrev c41:List (Str×D):=[("name",.fn "kind_of_name"),("star",.fn "kind_of_star"),("pair",.fn "kind_of_pair"),("first",.fn "kind_of_first"),("second",.fn "kind_of_second"),("left",.fn "kind_of_left"),("right",.fn "kind_of_right"),("case",.fn "kind_of_case"),("way",.fn "kind_of_way"),("give",.fn "kind_of_give"),("let",.fn "kind_of_let"),("never",.fn "kind_of_never")]
structure PKo(P:i9)(G:Gs):Prop extends PKd P G,PIn P G where
 kbp:P "kind_by_parts"=AA al8
 nnm:P "new_name"=AA ap0
 hvs:P "halves_of"=AA ao5
 k0:P "kind_of_name"=AA an6
 k1:P "kind_of_star"=AA am5
 k2:P "kind_of_pair"=AA an1
 k3:P "kind_of_first"=AA am3
 k4:P "kind_of_second"=AA al1
 k5:P "kind_of_left"=AA an7
 k6:P "kind_of_right"=AA am1
 k7:P "kind_of_case"=AA an2
 k8:P "kind_of_way"=AA ao1
 k9:P "kind_of_give"=AA an0
 k10:P "kind_of_let"=AA an8
 k11:P "kind_of_never"=AA am0
 tbw:G.tab "BY_WORD"=c41
abbrev A4(S:List It3)(ks:List Kd):List D:=ks.map λk=>.int (nb S k.d:Nat)
section
variable (T:PKo P G) {S:List It3} 
include T
def af3{w:String}{k:Kd}(ek:k.d=.tup [.str w,a.d,b.d])(K:KA sh dn sa pa wa S ws st)(h:Has S k.d)(q:Has S a.d->Has S b.d->Q (.tup [.int (nb S a.d:Nat),.int (nb S b.d:Nat)]) st):sem P G (n+2) "halves_of" [.str w,.int (nb S k.d:Nat),.ref sh] st Q:=by
 refine i5 T.hvs rfl [AA (.str w),AA (.int (nb S k.d:Nat)),AA (.ref sh)] rfl ?_;rw[ek]at h ⊢;have ht:∀d∈[a.d,b.d],∃l,d=.tup l:=λd hd=>by simp at hd;rcases hd with rfl|rfl<;>exact cy6 _
 obtain⟨hh,_⟩:=bm2 K.A.wf (fr:=[.str w]) (inn:=[a.d,b.d]) h ay4 ht;∎;refine⟨sh,"Shelf",_,rfl,K.A.ins,rfl,by rw[T.word];rfl,bh0 T.toPSh K.A h ?_⟩;rfl';∎;refine⟨sh,"Shelf",_,rfl,K.A.ins,rfl,by rw[T.wthn];rfl,b01 T.toPSh K.A (fr:=[.str w]) (inn:=[a.d,b.d]) h ay4 ht ?_⟩;exact f7 (q (hh _ ∎) (hh _ ∎))
end
abbrev Pg.told(m:Nat):Pg->Prop
 |.left b _=>b.nest<=m
 |.right b _=>b.nest<=m
 |.way b _=>b.nest<=m
 |.never b _=>b.nest<=m
 |_=>True
def Pg.told_kn(h:p.kn m):p.told m:=by cases p<;>first|trivial|exact h.1
abbrev StQ(sh dn sa pa wa:AH)(S:List It3)(ws:List (Kd×Bool))(st:Sto)(k:Kd)(Q:DK):Prop:=∀S' ws' st',Has S' k.d->S <+: S'->S'.length<=S.length+128->KA sh dn sa pa wa S' ws' st'->WUp ws ws'->Kp (shL sh dn sa pa wa) st st'->Q (.int (nb S' k.d:Nat)) st'
section
variable (T:PKo P G) {S:List It3} 
include T
def bt4(hn:14<=n)(K:KA sh dn sa pa wa S ws st)(ht:p.told 3)(hm:p.more i=1)(hk:p.nw ks i=AA a)(hc:st ca=AA (.lst (A4 S ks)))(hh:∀k∈ks,Has S k.d)(hS:S.length+128<=900000)
  (q:StQ sh dn sa pa wa S ws st a Q):sem P G n "new_name" [p.d,.ref ca,.int i,.ref sh] st Q:=by
 obtain⟨n,rfl⟩:∃m,n=m+3:=⟨n-3,⋯⟩;refine i5 T.nnm rfl [AA p.d,AA (.ref ca),AA (.int i),AA (.ref sh)] rfl ?_;cases p<;>first|(cases hk;done)|skip
 case case t u v=>
  cases ks with
  |nil=>cases hk
  |cons k0 ks=>
   cases k0<;>first|(cases hk;done)|skip
   rename_i x y;simp only[Pg.d];(iterate 3 ∎);refine⟨by rw[T.hvs];rfl,?_⟩;rw[n8 (.inl hc)];refine⟨.int (nb S (Kd.eith x y).d:Nat),by rw[ay2];rfl,?_⟩;refine af3 T (w:="either") (k:=.eith x y) rfl K (hh _ ∎) λh1 h2=>?_;rfl';simp only[Pg.more]at hm;have hi:i=1\/i=2:=by
    split at hm
    ·assumption
    ·cases hm
   rcases hi with rfl|rfl
   ·cases hk;exact⟨_,rfl,f7 (q S ws st h1 (DI _) ⋯ K rfl Kp.refl)⟩
   ·cases hk;exact⟨_,rfl,f7 (q S ws st h2 (DI _) ⋯ K rfl Kp.refl)⟩
 case way b t=>
  cases hk;simp only[Pg.d];(iterate 2 ∎);refine⟨sh,"Shelf",_,3,rfl,K.A.ins,rfl,by rw[T.lkd];rfl,T.dfl,?_⟩;have hz:=Y0 ht;have ht':a.nest<=3:=ht;exact X0 T.toPKd ⋯ ⋯ K ⋯ λS' st' h1 h2 h3 h4 h5=>f7 (q S' ws st' h1 h2 ⋯ h4 rfl h5)
 case lets t u=>
  cases ks with
  |nil=>cases hk
  |cons k0 ks=>
   cases hk;simp only[Pg.d];(iterate 3 ∎);rw[n8 (.inl hc)];exact⟨.int (nb S a.d:Nat),by rw[ay2];rfl,f7 (q S ws st (hh _ ∎) (DI _) ⋯ K rfl Kp.refl)⟩
def cw9{k:Kd}{kn:List Int}(hn:16<=n)(K:KA sh dn sa pa wa S ws st)(ht:p.told 3)(hk:p.kk Γ ks=AA k)(hc:st ca=AA (.lst (A4 S ks)))(hh:∀k∈ks,Has S k.d)(hka:st ka=AA (.lst (kn.map D.int)))(hkn:KnOk S ws Γ kn)(hca:ca∉shL sh dn sa pa wa)(hS:S.length+128<=900000)
  (q:StQ sh dn sa pa wa S ws st k Q):sem P G n "kind_by_parts" [p.d,.ref ca,.ref ka,.ref sh] st Q:=by
 obtain⟨n,rfl⟩:∃m,n=m+5:=⟨n-5,⋯⟩;have tb:(Zg P G (n+4)).G "BY_WORD"≠[]:=by show G.tab "BY_WORD"≠[];rw[T.tbw];exact λz=>by cases z
 have here:∀{k:Kd},StQ sh dn sa pa wa S ws st k Q->Has S k.d->Q (.int (nb S k.d:Nat)) st:=λq h=>q S ws st h (DI _) ⋯ K rfl Kp.refl;refine i5 T.kbp rfl [AA p.d,AA (.ref ca),AA (.ref ka),AA (.ref sh)] rfl ?_;unfold al8;cases p<;>simp only[Pg.d]
 all_goals
  ∎;refine⟨tb,?_⟩;simp only[T.tbw];refine⟨_,rfl,?_⟩
 case name m=>
  cases ks with
  |cons _ _=>cases hk
  |nil=>
   refine⟨_,rfl,by rw[T.k0];rfl,?_⟩;refine i5 T.k0 rfl [AA (.tup [.str "name",.int m]),AA (.ref ca),AA (.ref ka),AA (.ref sh),AD] rfl ?_;unfold an6;have hk:Γ[m]?=AA k:=hk;have hm:=(AX.mp hk).1;obtain⟨e,he,hen⟩:=hkn.at' m k hk;have hl:=hkn.len;(iterate 2 ∎);rw[z0 (.inl hka)];rfl';rw[if_neg ⋯,if_neg (by simp only[AT];lia)];∎;refine⟨sh,"Shelf",_,rfl,K.A.ins,rfl,by rw[T.tku];rfl,?_⟩;rw[z0 (.inl hka)];rfl';rw[n8 (.inl hka)];have ei:(((kn.map D.int).length:Nat):Int)-1-(m:Int)=((kn.length-1-m:Nat):Int):=by rw[AT];lia
   rw[ei];refine⟨.int e,by rw[E1,Aj];rw[FB ⋯]at he;rw[he];rfl,?_⟩;exact bw0 T.toPKd ⋯ K hen ⋯ λS' ws' st' h1 h2 h3 h4 h5 h6=>f7 (f7 (q S' ws' st' h1 h2 ⋯ h4 h5 h6))
 case star=>
  cases ks with
  |cons _ _=>cases hk
  |nil=>
   cases hk;refine⟨_,rfl,by rw[T.k1];rfl,?_⟩;refine i5 T.k1 rfl [AA (.tup [.str "star"]),AA (.ref ca),AA (.ref ka),AA (.ref sh)] rfl ?_;unfold am5;∎;refine⟨sh,"Shelf",_,rfl,K.A.ins,rfl,by rw[T.numb];rfl,?_⟩;exact at9 T.toPKd (w:="one") (inn:=[]) K.A K.D0 K.W ∎ ∎ ⋯ λS' st' h1 h2 h3 h4 h5 h6=>f7 (f7 (q S' ws st' h1 h2 ⋯ (K.up h4 h2 h5) rfl h6))
 case pair t u=>
  match ks,hk with
  |[a,b],hk=>
   cases hk;refine⟨_,rfl,by rw[T.k2];rfl,?_⟩;refine i5 T.k2 rfl [AA (.tup [.str "pair",t.d,u.d]),AA (.ref ca),AA (.ref ka),AA (.ref sh)] rfl ?_;unfold an1;∎;refine⟨sh,"Shelf",_,rfl,K.A.ins,rfl,by rw[T.blt];rfl,?_⟩;rw[n8 (.inl hc)];refine⟨_,rfl,?_⟩;rw[n8 (.inl hc)];refine⟨_,rfl,?_⟩;exact aa4 T.toPKd (w:="both") K.A K.D0 K.W (hh _ ∎) (hh _ ∎) ⋯ λS' st' h1 h2 h3 h4 h5 h6=>f7 (f7 (q S' ws st' h1 h2 ⋯ (K.up h4 h2 h5) rfl h6))
 case first t=>
  match ks,hk with
  |[.both a b],hk=>
   cases hk;refine⟨_,rfl,by rw[T.k3];rfl,?_⟩;refine i5 T.k3 rfl [AA (.tup [.str "first",t.d]),AA (.ref ca),AA (.ref ka),AA (.ref sh)] rfl ?_;unfold am3;∎;refine⟨by rw[T.hvs];rfl,?_⟩;rw[n8 (.inl hc)];refine⟨_,rfl,af3 T (w:="both") (k:=.both k b) rfl K (hh _ ∎) λh1 h2=>?_⟩;rfl';exact f7 (f7 (here q h1))
 case second t=>
  match ks,hk with
  |[.both a b],hk=>
   cases hk;refine⟨_,rfl,by rw[T.k4];rfl,?_⟩;refine i5 T.k4 rfl [AA (.tup [.str "second",t.d]),AA (.ref ca),AA (.ref ka),AA (.ref sh)] rfl ?_;unfold al1;∎;refine⟨by rw[T.hvs];rfl,?_⟩;rw[n8 (.inl hc)];refine⟨_,rfl,af3 T (w:="both") (k:=.both a k) rfl K (hh _ ∎) λh1 h2=>?_⟩;rfl';exact f7 (f7 (here q h2))
 case case t u v=>
  match ks,hk with
  |[.eith a b,c,d],hk=>
   have hk:(if c=d then AA c else AD)=AA k:=hk
   split at hk
   ·rename_i hcd;cases hk;subst hcd;refine⟨_,rfl,by rw[T.k7];rfl,?_⟩;refine i5 T.k7 rfl [AA (.tup [.str "case",t.d,u.d,v.d]),AA (.ref ca),AA (.ref ka),AA (.ref sh)] rfl ?_;unfold an2;∎;rw[n8 (.inl hc)];refine⟨_,rfl,?_⟩;rw[n8 (.inl hc)];refine⟨_,rfl,?_⟩;rw[aw6];rfl';∎;rw[n8 (.inl hc)];exact⟨_,rfl,f7 (f7 (here q (hh _ ∎)))⟩
   ·cases hk
 case lets t u=>
  match ks,hk with
  |[a,c],hk=>
   cases hk;refine⟨_,rfl,by rw[T.k10];rfl,?_⟩;refine i5 T.k10 rfl [AA (.tup [.str "let",t.d,u.d]),AA (.ref ca),AA (.ref ka),AA (.ref sh)] rfl ?_;unfold an8;∎;rw[n8 (.inl hc)];exact⟨_,rfl,f7 (f7 (here q (hh _ ∎)))⟩
 case give t u=>
  match ks,hk with
  |[.way a b,c],hk=>
   have hk:(if a=c then AA b else AD)=AA k:=hk
   split at hk
   ·rename_i hcd;cases hk;subst hcd;refine⟨_,rfl,by rw[T.k9];rfl,?_⟩;refine i5 T.k9 rfl [AA (.tup [.str "give",t.d,u.d]),AA (.ref ca),AA (.ref ka),AA (.ref sh),AD] rfl ?_;unfold an0;∎;refine⟨by rw[T.hvs];rfl,?_⟩;rw[n8 (.inl hc)];refine⟨_,rfl,af3 T (w:="way") (k:=.way a k) rfl K (hh _ ∎) λh1 h2=>?_⟩;∎;rw[n8 (.inl hc)];refine⟨_,rfl,?_⟩;rw[aw6];rfl';∎;exact f7 (f7 (here q h2))
   ·cases hk
 case left b t=>
  match ks,hk with
  |[a],hk=>
   cases hk;have ht':b.nest<=3:=ht;have hz:=Y0 ht';refine⟨_,rfl,by rw[T.k5];rfl,?_⟩;refine i5 T.k5 rfl [AA (.tup [.str "left",b.d,t.d]),AA (.ref ca),AA (.ref ka),AA (.ref sh)] rfl ?_;unfold an7;∎;refine⟨sh,"Shelf",_,rfl,K.A.ins,rfl,by rw[T.blt];rfl,?_⟩;rw[n8 (.inl hc)];refine⟨_,rfl,sh,"Shelf",_,3,rfl,K.A.ins,rfl,by rw[T.lkd];rfl,T.dfl,?_⟩;refine X0 T.toPKd ⋯ ⋯ K ⋯ λS1 st1 a1 a2 a3 K1 a5=>?_;rfl';rw[<-T5 K1.A.wf (hh a ∎) a2];exact aa4 T.toPKd (w:="either") K1.A K1.D0 K1.W ((hh _ ∎).mono a2) a1 ⋯ λS' st' h1 h2 h3 h4 h5 h6=>f7 (f7 (q S' ws st' h1 (a2.trans h2) ⋯ (K1.up h4 h2 h5) rfl (a5.trans h6)))
 case right b t=>
  match ks,hk with
  |[a],hk=>
   cases hk;have ht':b.nest<=3:=ht;have hz:=Y0 ht';refine⟨_,rfl,by rw[T.k6];rfl,?_⟩;refine i5 T.k6 rfl [AA (.tup [.str "right",b.d,t.d]),AA (.ref ca),AA (.ref ka),AA (.ref sh)] rfl ?_;unfold am1;∎;refine⟨sh,"Shelf",_,rfl,K.A.ins,rfl,by rw[T.blt];rfl,sh,"Shelf",_,3,rfl,K.A.ins,rfl,by rw[T.lkd];rfl,T.dfl,?_⟩;refine X0 T.toPKd ⋯ ⋯ K ⋯ λS1 st1 a1 a2 a3 K1 a5=>?_;rfl';rw[n8 (.inl (a5.at' hc hca))];refine⟨.int (nb S a.d:Nat),rfl,?_⟩;rw[<-T5 K1.A.wf (hh a ∎) a2];exact aa4 T.toPKd (w:="either") K1.A K1.D0 K1.W a1 ((hh _ ∎).mono a2) ⋯ λS' st' h1 h2 h3 h4 h5 h6=>f7 (f7 (q S' ws st' h1 (a2.trans h2) ⋯ (K1.up h4 h2 h5) rfl (a5.trans h6)))
 case way b t=>
  match ks,hk with
  |[a],hk=>
   cases hk;have ht':b.nest<=3:=ht;have hz:=Y0 ht';refine⟨_,rfl,by rw[T.k8];rfl,?_⟩;refine i5 T.k8 rfl [AA (.tup [.str "way",b.d,t.d]),AA (.ref ca),AA (.ref ka),AA (.ref sh)] rfl ?_;unfold ao1;∎;refine⟨sh,"Shelf",_,rfl,K.A.ins,rfl,by rw[T.blt];rfl,sh,"Shelf",_,3,rfl,K.A.ins,rfl,by rw[T.lkd];rfl,T.dfl,?_⟩;refine X0 T.toPKd ⋯ ⋯ K ⋯ λS1 st1 a1 a2 a3 K1 a5=>?_;rfl';rw[n8 (.inl (a5.at' hc hca))];refine⟨.int (nb S a.d:Nat),rfl,?_⟩;rw[<-T5 K1.A.wf (hh a ∎) a2];exact aa4 T.toPKd (w:="way") K1.A K1.D0 K1.W a1 ((hh _ ∎).mono a2) ⋯ λS' st' h1 h2 h3 h4 h5 h6=>f7 (f7 (q S' ws st' h1 (a2.trans h2) ⋯ (K1.up h4 h2 h5) rfl (a5.trans h6)))
 case never b t=>
  match ks,hk with
  |[.non],hk=>
   cases hk;have ht':k.nest<=3:=ht;have hz:=Y0 ht';refine⟨_,rfl,by rw[T.k11];rfl,?_⟩;refine i5 T.k11 rfl [AA (.tup [.str "never",k.d,t.d]),AA (.ref ca),AA (.ref ka),AA (.ref sh)] rfl ?_;unfold am0;∎;refine⟨sh,"Shelf",_,rfl,K.A.ins,rfl,by rw[T.word];rfl,?_⟩;rw[n8 (.inl hc)];refine⟨.int (nb S (D.tup [.str "none"]):Nat),rfl,bh0 T.toPSh K.A (d:=.str "none") (r:=[]) (hh .non ∎) ?_⟩;rw[ad3];rfl';∎;refine⟨sh,"Shelf",_,3,rfl,K.A.ins,rfl,by rw[T.lkd];rfl,T.dfl,?_⟩;exact X0 T.toPKd ⋯ ⋯ K ⋯ λS' st' h1 h2 h3 h4 h5=>f7 (f7 (q S' ws st' h1 h2 ⋯ h4 rfl h5))
end
def bm5{f}(h:sem P G n f ds st Q):(A8 P G (n+1)).2.1 f ds st Q:=h
section
variable (T0:PM P G) {T:Type} {enc:T->D} {subs:T->List T} {size:T->Nat} {DH:T->Prop}
include T0
def ci3{L}hsz(hg:∀t,DH t->∀c∈subs t,DH c){F}hF(hM:Cok P M)t(hs:size t<=2000)hgt(hL:∀a∈L,∃o,st a=AA o){Y:AH->List T->List D->Sto->Prop}hYL
  (hY0:∀dn st',st dn=AD->Kp [] st st'->Y dn [] [] st') hYk
  (hp:∀c st' Q,DH c->Kp [] st st'->(∀d st2,X1 st' st2 d ((subs c).map enc)->Kp [] st' st2->Q d st2)->E6 P G n F [enc c] st' Q)
  hm
  (q:∀dn d st',st dn=AD->Y dn [t] [d] st'->Kp L st st'->Q d st'):=
 bf4 T0 (λa h0 _ K b o nb e=>K b o (by grind) (a b o nb e)) Kp.refl (λK a h=>(hL a h).elim λo e=>⟨o,K a o ∎ e⟩) hsz hg hF hM t hs hgt (Y:=Y) hYL (λdn st' h j _=>hY0 dn st' h j) hYk (λc st' Q gc j K k=>hp c st' Q gc j λd st2 h K2=>k d st2 h (j.trans K2) (K2.more ∎)) hm q
end
abbrev ndF(p:Pg)(la:AH)(x h w:Int)(kd:D):List (Str×D):=[(("program":Str),p.d),(("inside":Str),.ref la),(("number":Str),.int x),(("holders":Str),.int h),(("ways":Str),.int w),(("used":Str),.non),(("kind":Str),kd)]
abbrev ndO(p:Pg)(la:AH)(x h w:Int)(kd:D):Ob:=.ins "Node" (ndF p la x h w kd)
abbrev F5(d:D):Prop:=d=.non\/∃j:Int,d=.int j
inductive Nd(st0:Sto)(X:List AH)(st:Sto):Int->Pg->AH->List AH->Prop where
 |mk {h:Int} {p:Pg} {a la:AH} {x w:Int} {kd:D} {as:List AH} {fs:List (List AH)}:st a=AA (ndO p la x h w kd)->F5 kd->st la=AA (.lst (as.map D.ref))->la∉X->st0 la=AD->st0 a=AD->as.length=p.kids.length->fs.length=p.kids.length->(∀(i:Nat)c b f,p.kids[i]?=AA c->as[i]?=AA b->fs[i]?=AA f->Nd st0 X st 1 c b f)->Nd st0 X st h p a (a::fs.flatten)
section
variable {st0:Sto} {a:AH} 
def Nd.stay(n:Nd st0 X st h p a f)(hi:∀b∈f,∀o,st b=AA o->st' b=AA o)(hn:KpN X st st'):Nd st0 X st' h p a f:=by
 induction n with
 |@mk h p a la x w kd as fs h1 h2 h3 h4 h5 h6 h7 h8 _ ih=>
  exact .mk (hi a ∎ _ h1) h2 (hn la _ h4 (λ_ _ z=>by cases z) h3) h4 h5 h6 h7 h8 λi c b f e1 e2 e3=>ih i c b f e1 e2 e3 λb' hb=>hi b' (As _ (Cb.mpr ⟨f,At e3,hb⟩))
theorem Nd.ins(n:Nd st0 X st h p a f):∀b∈f,∃fl,st b=AA (.ins "Node" fl):=by
 induction n with
 |@mk h p a la x w kd as fs h1 h2 h3 h4 h5 h6 h7 h8 hk ih=>
  intro b hb
  rcases AK.mp hb with rfl|hb
  ·exact⟨_,h1⟩
  ·obtain⟨f,hf,hb⟩:=Cb.mp hb;obtain⟨i,hi,rfl⟩:=FH.mp hf;exact ih i p.kids[i] as[i] fs[i] (AM ⋯) (AM ⋯) (AM hi) b hb
def Nd.root(n:Nd st0 X st h p a f):∃la x w kd,st a=AA (ndO p la x h w kd)/\F5 kd/\a∈f/\st0 a=AD:=by
 cases n with
 |mk h1 h2 h3 h4 h5 h6 h7 h8 hk=>exact⟨_,_,_,_,h1,h2,∎,h6⟩
def Nd.upd(n:Nd st0 X st h p a f)(nd:f.Nodup){x w kd}(ha:st a=AA (ndO p la x h w kd))(hk:F5 kd'):Nd st0 X (c9 st a (ndO p la x h' w' kd')) h' p a f:=by
 cases n with
 |@mk _ _ _ la2 x2 w2 kd2 as fs h1 h2 h3 h4 h5 h6 h7 h8 hks=>
  rw[ha]at h1;simp only[ndO,ndF,Cf,Ob.ins.injEq,AY,JK,D.ref.injEq,D.int.injEq,true_and,and_true]at h1;obtain⟨rfl,rfl,rfl,rfl⟩:=h1;have hne:la≠a:=λz=>by rw[z,ha]at h3;cases h3
  have hN:KpN X st (c9 st a (ndO p la x h' w' kd')):=λb o _ ho e=>f8 e (λz=>by rw[z,ha]at e;cases e;exact ho _ _ rfl);refine .mk f6 hk (f8 h3 hne) h4 h5 h6 h7 h8 λi c b f e1 e2 e3=>(hks i c b f e1 e2 e3).stay (λb' hb o ho=>f8 ho (λz=>?_)) hN;subst z;exact(BU.mp nd).1 (Cb.mpr ⟨f,At e3,hb⟩)
end
structure PNo(P:i9)(G:Gs):Prop extends PKo P G where
 nin:P (f9 "Node" "__init__")=AA am4
 ncl:G.cls "Node"=[("program":Str),("inside":Str),("number":Str),("holders":Str),("ways":Str),("used":Str),("kind":Str)]
 nod:P "noded"=AA at3
 fol:P "folded"=AA P8
 kon:P "kind_of_node"=AA an5
 ko:P "kind_of"=AA aq2
 shn:P "shelved_names"=AA al3
 shk:P "shelved_kind"=AA an3
section
variable (T:PNo P G) 
include T
def cg2{nd:AH}{x:Int}(q:Q .non (c9 st nd (ndO p la x 0 0 .non))):sem P G (n+1) (f9 "Node" "__init__") [.ref nd,p.d,.ref la,.int x] (c9 st nd (.ins "Node" [])) Q:=by
 refine i5 T.nin rfl [AA (.ref nd),AA p.d,AA (.ref la),AA (.int x)] rfl ?_;have hc:∀f∈([("program":Str),("inside":Str),("number":Str),("holders":Str),("ways":Str),("used":Str),("kind":Str)]:List Str),f∈G.cls "Node":=λf hf=>by rw[T.ncl];exact hf
 ∎;refine⟨nd,"Node",_,rfl,f6,hc _ ∎,∅,?_⟩;rw[S6];∎;refine⟨nd,"Node",_,rfl,f6,hc _ ∎,by simp[l9],?_⟩;rw[S6];∎;refine⟨nd,"Node",_,rfl,f6,hc _ ∎,by simp[l9,p5],?_⟩;rw[S6];∎;refine⟨nd,"Node",_,rfl,f6,hc _ ∎,by simp[l9,p5],?_⟩;rw[S6];∎;refine⟨nd,"Node",_,rfl,f6,hc _ ∎,by simp[l9,p5],?_⟩;rw[S6];∎;refine⟨nd,"Node",_,rfl,f6,hc _ ∎,by simp[l9,p5],?_⟩;rw[S6];∎;refine⟨nd,"Node",_,rfl,f6,hc _ ∎,by simp[l9,p5],?_⟩;rw[S6];refine be6 ?_;have e:l9 "kind" .non (l9 "used" .non (l9 "ways" (.int 0) (l9 "holders" (.int 0) (l9 "number" (.int x) (l9 "inside" (.ref la) (l9 "program" p.d []))))))=ndF p la x 0 0 .non:=by simp[l9,p5,ndF]
 rw[e];exact q
end
@[reducible]noncomputable def Tre:=Int×Pg×AH×List AH
structure FO(st0:Sto)(X:List AH)(l:List Tre)(st:Sto):Prop where
 nd:∀e∈l,Nd st0 X st e.1 e.2.1 e.2.2.1 e.2.2.2
 dj:(l.map (·.2.2.2)).flatten.Nodup
section
variable {st0:Sto} {l l1 l2:List Tre}
theorem FO.stay(h:FO st0 X l st)(hi:∀b∈(l.map (·.2.2.2)).flatten,∀o,st b=AA o->st' b=AA o)(hn:KpN X st st'):FO st0 X l st':=
 ⟨λe he=>(h.nd e he).stay (λb hb=>hi b (Cb.mpr ⟨_,Aq.mpr ⟨e,he,rfl⟩,hb⟩)) hn,h.dj⟩
theorem FO.upd{w x:Int}{c:Pg}{b lb:AH}(F:FO st0 X (l1++(h,c,b,f)::l2) st)(hb:st b=AA (ndO c lb x h w kd))(hk:F5 kd'):FO st0 X (l1++(h',c,b,f)::l2) (c9 st b (ndO c lb x h' w' kd')):=by
 have n:=F.nd (h,c,b,f) ∎;obtain⟨_,_,_,_,_,_,hbf,_⟩:=n.root;have dj:=F.dj;simp only[Ae,AZ,Du,List.flatten_cons]at dj;have d1:=Cr.mp dj;have d2:=Cr.mp d1.2.1;have hN:KpN X st (c9 st b (ndO c lb x h' w' kd')):=λb' o _ ho e=>f8 e (λz=>by rw[z,hb]at e;cases e;exact ho _ _ rfl);refine⟨λe he=>?_,by simpa using dj⟩
 rcases Ap.mp he with h1|h1
 ·refine(F.nd e (by simp[h1])).stay (λb' hb' o ho=>f8 ho (λz=>?_)) hN;exact d1.2.2 b' (Cb.mpr ⟨_,Aq.mpr ⟨e,h1,rfl⟩,hb'⟩) b (EQ _ hbf) z
 ·rcases AK.mp h1 with rfl|h1
  ·exact n.upd d2.1 hb hk
  ·refine(F.nd e (by simp[h1])).stay (λb' hb' o ho=>f8 ho (λz=>?_)) hN;exact d2.2.2 b hbf b' (Cb.mpr ⟨_,Aq.mpr ⟨e,h1,rfl⟩,hb'⟩) z.symm
def Nd.monoX{Y}{a}(n:Nd st0 X st h p a f)(hX:∀y∈Y,y∈X):Nd st0 Y st h p a f:=by
 induction n with
 |mk h1 h2 h3 h4 h5 h6 h7 h8 _ ih=>exact .mk h1 h2 h3 (λz=>h4 (hX _ z)) h5 h6 h7 h8 ih
end
def b18{x w}:l9 "holders" (.int h') (ndF p la x h w kd)=ndF p la x h' w kd:=rfl
def bb3{x w}:l9 "ways" (.int w') (ndF p la x h w kd)=ndF p la x h w' kd:=rfl
def b78{x w}:l9 "kind" kd' (ndF p la x h w kd)=ndF p la x h w kd':=rfl
section
variable (T:PNo P G) 
include T
def b36{na:AH}(hn:5<=n)(hp:p.parts<=2000)(hna:st na=AA (.lst []))(hX:∀x∈X,∃o,st x=AA o)
  (q:∀a f st',Nd st X st' 0 p a f->Kp [na] st st'->Q (.ref a) st'):sem P G n "noded" [p.d,.ref na] st Q:=by
 obtain⟨n,rfl⟩:∃m,n=m+5:=⟨n-5,⋯⟩;have hc:∀f∈([("program":Str),("inside":Str),("number":Str),("holders":Str),("ways":Str),("used":Str),("kind":Str)]:List Str),f∈G.cls "Node":=λf hf=>by rw[T.ncl];exact hf
 refine i5 T.nod rfl [AA p.d,AA (.ref na),AD,AD,AD] rfl ?_;(iterate 2 ∎);refine⟨by rw[T.mop];rfl,by rw[T.inner];rfl,?_⟩;refine ci3 T.toPM (n:=n+2) (T:=Pg) (enc:=Pg.d) (subs:=Pg.kids) (size:=Pg.parts) (DH:=λ_=>True) (L:=[na]) Pg.parts_kids (λ_ _ _ _=>trivial) (F:=.fn "inner") (show(P _).isSome=AC by rw[T.inner];rfl) (show Cok P (.clo _ _ _ _) from trivial) p hp trivial (by simp;exact⟨_,hna⟩)
  (Y:=λdn S ds st'=>∃(l:List Tre)(nl:List D),FO st (dn::na::X) l st'/\l.map (·.2.1)=S/\ds=l.map (λe=>D.ref e.2.2.1)/\(∀e∈l,e.1=0)/\dn∉(l.map (·.2.2.2)).flatten/\st' na=AA (.lst nl)/\nl.length=(S.map Pg.parts).sum) ?_ ?_ ?_ ?_ ?_ ?_
 ·rintro dn S ds st1 ⟨l,nl,_,_,_,_,_,h,_⟩ a ha;simp at ha;subst ha;exact⟨_,h⟩
 ·intro dn st' hdn K;exact⟨[],[],⟨∎,∎⟩,rfl,rfl,∎,∎,K.at' hna ∎,∎⟩
 ·rintro dn S ds st1 st2 hdn ⟨l,nl,F,e1,e2,e3,e4,e5,e6⟩ K;refine⟨l,nl,F.stay (λb hb o ho=>K.at' ho (by simp;exact λz=>e4 (z▸hb))) (λb o hb _ ho=>K.at' ho (by simp at hb ⊢;exact hb.1)),e1,e2,e3,e4,K.at' e5 (by simp;exact λz=>by rw[z,hdn]at hna;cases hna),e6⟩
 ·intro c st' Q _ K k;refine bz7 T.toPIn c λa ha=>k _ _ (.inr ⟨a,rfl,ha,f6⟩) (Kp.refl.new ha)
 ·rintro c dn la st' Q S ds xs _ K hdn hlaL hne hl0 hla hlx hlS ⟨l,nl,F,e1,e2,e3,e4,e5,e6⟩ hd hsum k;obtain⟨l1,l2,rfl,m1,m2⟩:∃l1 l2:List Tre,l=l1++l2/\l1.map (·.2.1)=S/\l2.map (·.2.1)=c.kids:=by
   refine⟨l.take S.length,l.drop S.length,(FC _ _).symm,?_,?_⟩
   ·rw[Jw,e1,JT];rfl
   ·rw[Jx,e1,List.drop_left'];rfl
  rw[Ae]at e2;have hl1:l1.length=S.length:=by rw[<-m1,AT]
  obtain⟨x1,x2⟩:=List.append_inj e2 (by rw[hlS,AT,hl1]);subst x1 x2;have hpc:=Pg.parts_kids c;rw[Ae,EB]at e6;refine ab5 rfl [AA c.d,AA (.ref la),AA (.ref na),AD,AD] rfl ?_;∎;refine⟨by show(AC&&_)=AC;rw[T.nin];rfl,?_⟩;rw[z0 (.inl e5)];intro nd hnd;refine bm5 (n:=n+1) ?_;refine cg2 T ?_;have hndna:na≠nd:=j9 e5 hnd;have hnd0:st nd=AD:=by
   cases z:st nd with
   |none=>rfl
   |some u=>
    by_cases hz:nd=na
    ·exact absurd hz.symm hndna
    ·rw[K.at' z (by simpa using hz)]at hnd;cases hnd
  have fr:∀b∈((l1++l2).map (·.2.2.2)).flatten,b≠nd:=λb hb z=>by
   obtain⟨f,hf,hb⟩:=Cb.mp hb;obtain⟨e,he,rfl⟩:=Aq.mp hf;obtain⟨fl,h⟩:=(F.nd e he).ins b hb;rw[z,hnd]at h;cases h
  have fna:∀b∈((l1++l2).map (·.2.2.2)).flatten,b≠na:=λb hb z=>by
   obtain⟨f,hf,hb⟩:=Cb.mp hb;obtain⟨e,he,rfl⟩:=Aq.mp hf;obtain⟨fl,h⟩:=(F.nd e he).ins b hb;rw[z,e5]at h;cases h
  ∎;have e5':c9 st' nd (ndO c la nl.length 0 0 .non) na=AA (.lst nl):=i7 e5 hnd;rw[u0 (.inl e5'),C6 e5'];refine⟨trivial,C4 ⋯,?_⟩;have N1:KpN [na] st' (c9 (c9 st' nd (ndO c la nl.length 0 0 .non)) na (.lst (nl++[.ref nd]))):=λb o hb _ ho=>f8 (i7 ho hnd) (by simpa using hb);have K1:Kp [na] st (c9 (c9 st' nd (ndO c la nl.length 0 0 .non)) na (.lst (nl++[.ref nd]))):=(K.new hnd).put ∎;have F1:FO st (dn::na::X) (l1++l2) (c9 (c9 st' nd (ndO c la nl.length 0 0 .non)) na (.lst (nl++[.ref nd]))):=F.stay (λb hb o ho=>f8 (i7 ho hnd) (fna b hb)) (λb o hb _ ho=>f8 (i7 ho hnd) (by simp at hb;exact hb.2.1));have d1:(c9 (c9 st' nd (ndO c la nl.length 0 0 .non)) na (.lst (nl++[.ref nd]))) nd=AA (ndO c la nl.length 0 0 .non):=f8 f6 hndna.symm;have na1:(c9 (c9 st' nd (ndO c la nl.length 0 0 .non)) na (.lst (nl++[.ref nd]))) na=AA (.lst (nl++[.ref nd])):=f6;have la1:=N1 la _ hlaL (λ_ _ z=>by cases z) hla;revert N1 K1 F1 d1 na1 la1;generalize c9 (c9 st' nd (ndO c la nl.length 0 0 .non)) na (.lst (nl++[.ref nd]))=s1;intro N1 K1 F1 d1 na1 la1;have e3':∀e∈l1,e.1=0:=λe he=>e3 e (by simp[he]);have e32:∀e∈l2,e.1=0:=λe he=>e3 e (by simp[he]);∎;refine⟨_,.inl la1,?_⟩;refine A0 (λll env s2=>∃(pre suf:List Tre)(w:Int)(x4:Option D),ll=suf.map (λe=>D.ref e.2.2.1)/\(pre++suf).map (·.2)=l2.map (·.2)/\(∀e∈pre,e.1=1)/\(∀e∈suf,e.1=0)/\env=[AA c.d,AA (.ref la),AA (.ref na),AA (.ref nd),x4]/\FO st (dn::na::X) (l1++(pre++suf)) s2/\s2 nd=AA (ndO c la nl.length 0 w .non)/\KpN [na] st' s2/\Kp [na] st s2/\s2 na=AA (.lst (nl++[.ref nd]))) ?_ ?_ _ _ _ ⟨[],l2,0,AD,rfl,rfl,∎,e32,rfl,F1,d1,N1,K1,na1⟩
  ·rintro env s2 ⟨pre,suf,w,x4,el,em,hp1,_,rfl,F2,d2,N2,K2,na2⟩;have es:suf=[]:=by simpa using el.symm
   subst es;rw[Ao]at em F2;refine⟨.inl (N2 la _ hlaL (λ_ _ z=>by cases z) hla),?_⟩;have fin:∀(w:Int)(s3:Sto),FO st (dn::na::X) (l1++pre) s3->s3 nd=AA (ndO c la nl.length 0 w .non)->KpN [na] st' s3->Kp [na] st s3->s3 na=AA (.lst (nl++[.ref nd]))->Q (.ref nd) s3:=by
    intro w s3 F3 d3 N3 K3 na3;have hk:pre.map (·.2.1)=c.kids:=by
     have:=congrArg (GI (λz:Pg×AH×List AH=>z.1)) em;rw[BN,BN]at this;rw[<-m2];exact this
    have hf:pre.map (·.2.2.2)=l2.map (·.2.2.2):=by
     have:=congrArg (GI (λz:Pg×AH×List AH=>z.2.2)) em;rw[BN,BN]at this;exact this
    have hr:pre.map (λe=>D.ref e.2.2.1)=l2.map (λe=>D.ref e.2.2.1):=by
     have:=congrArg (GI (λz:Pg×AH×List AH=>D.ref z.2.1)) em;rw[BN,BN]at this;exact this
    have hla3:s3 la=AA (.lst ((pre.map (·.2.2.1)).map D.ref)):=by
     rw[N3 la _ hlaL (λ_ _ z=>by cases z) hla,BN,<-hr];rfl
    have hkl:pre.length=c.kids.length:=by rw[<-hk,AT]
    have hf2:((l1++pre).map (·.2.2.2)).flatten=((l1++l2).map (·.2.2.2)).flatten:=by rw[Ae,Ae,hf]
    have hfl:((l1++[((0:Int),c,nd,nd::(pre.map (·.2.2.2)).flatten)]).map (·.2.2.2)).flatten=(l1.map (·.2.2.2)).flatten++nd::(pre.map (·.2.2.2)).flatten:=by simp
    refine k (.ref nd) s3 ⟨l1++[(0,c,nd,nd::(pre.map (·.2.2.2)).flatten)],nl++[.ref nd],⟨λe he=>?_,?_⟩,by rw[Ae,m1];rfl,by rw[Ae];rfl,λe he=>?_,?_,na3,by simp only[Ac,AW,BK,Ae,AZ,CG,EB,Dt,HB];lia⟩ N3 K3
    ·rcases Ap.mp he with he|he
     ·exact F3.nd e (by simp[he])
     ·simp only[Am]at he;subst he;refine .mk d3 (.inl rfl) hla3 ?_ hl0 hnd0 (by rw[AT,hkl]) (by rw[AT,hkl]) λi c' b' f' x1 x2 x3=>?_
      ·simp only[AK,not_or];refine⟨hne,by simpa using hlaL,λz=>?_⟩;obtain⟨o,h⟩:=hX la z;rw[hl0]at h;cases h
      ·rw[Aj]at x2 x3;rw[<-hk,Aj]at x1;cases hi:pre[i]? with
       |none=>rw[hi]at x1;cases x1
       |some e=>
        rw[hi]at x1 x2 x3;cases x1;cases x2;cases x3;have hm:=At hi;have:=F3.nd e (by simp[hm]);rw[hp1 e hm]at this;exact this
    ·rw[hfl];have dj:=F3.dj;rw[Ae,Du]at dj;obtain⟨g1,g2,g3⟩:=Cr.mp dj;have gn:∀x∈((l1++pre).map (·.2.2.2)).flatten,x≠nd:=λx hx=>fr x (by rw[<-hf2];exact hx);rw[Cr];refine⟨g1,BU.mpr ⟨λz=>gn nd (by rw[Ae,Du];exact BQ _ z) rfl,g2⟩,λx hx y hy=>?_⟩
     rcases AK.mp hy with rfl|hy
     ·exact gn x (by rw[Ae,Du];exact EQ _ hx)
     ·exact g3 x hx y hy
    ·rcases Ap.mp he with he|he
     ·exact e3' e he
     ·simp only[Am]at he;subst he;rfl
    ·rw[hfl];intro z;have hdnd:dn≠nd:=j9 hd hnd
     rcases Ap.mp z with z|z
     ·exact e4 (by rw[Ae,Du];exact EQ _ z)
     ·rcases AK.mp z with z|z
      ·exact hdnd z
      ·exact e4 (by rw[Ae,Du,<-hf];exact BQ _ z)
   obtain⟨w0,r0,hcd⟩:∃(w0:String)(r0:List D),c.d=.tup (.str w0::r0):=by cases c<;>exact⟨_,_,rfl⟩
   rw[hcd];∎
   by_cases hw:w0="way"
   ·simp only[hw,if_true];∎;refine⟨nd,"Node",_,.int w,rfl,d2,hc _ ∎,rfl,?_⟩;rfl';refine⟨nd,"Node",_,rfl,d2,hc _ ∎,by simp[ndF],?_⟩;rw[bb3];∎;have hx:∀b∈((l1++pre).map (·.2.2.2)).flatten,b≠nd:=λb hb=>fr b (by
     have hf:pre.map (·.2.2.2)=l2.map (·.2.2.2):=by
      have:=congrArg (GI (λz:Pg×AH×List AH=>z.2.2)) em;rw[BN,BN]at this;exact this
     rw[Ae,<-hf,<-Ae];exact hb)
    refine f7 (fin (w+1) _ (F2.stay (λb hb o ho=>f8 ho (hx b hb)) λb o _ ho h=>f8 h (λz=>by rw[z,d2]at h;cases h;exact ho _ _ rfl)) f6 (λb o hb ho h=>f8 (N2 b o hb ho h) (λz=>by rw[z,hnd]at h;cases h)) (λb o hb h=>f8 (K2 b o hb h) (λz=>by rw[z,hnd0]at h;cases h)) (f8 na2 hndna))
   ·simp only[hw,if_false];∎;exact f7 (fin w s2 F2 d2 N2 K2 na2)
  ·rintro d0 dl env s2 ih ⟨pre,suf,w,x4,el,em,hp1,hs0,rfl,F2,d2,N2,K2,na2⟩;refine⟨.inl (N2 la _ hlaL (λ_ _ z=>by cases z) hla),?_⟩;cases suf with
   |nil=>simp at el
   |cons e suf=>
    simp only[AZ,AY]at el;obtain⟨rfl,rfl⟩:=el;obtain⟨h0,ce,b,f⟩:=e;have hh:h0=0:=hs0 (h0,ce,b,f) ∎;subst hh;have ne:=F2.nd (0,ce,b,f) ∎;obtain⟨lb,xb,wb,kb,hb,hkb,hbf,_⟩:=ne.root;have hbn:b≠nd:=fr b (by
     have hf:(pre++(0,ce,b,f)::suf).map (·.2.2.2)=l2.map (·.2.2.2):=by
      have:=congrArg (GI (λz:Pg×AH×List AH=>z.2.2)) em;rw[BN,BN]at this;exact this
     rw[Ae,<-hf,<-Ae];exact Cb.mpr ⟨f,Aq.mpr ⟨(0,ce,b,f),∎,rfl⟩,hbf⟩)
    have hbna:b≠na:=λz=>by rw[z,na2]at hb;cases hb
    have hb0:st b=AD:=by
     obtain⟨_,_,_,_,_,_,_,h⟩:=ne.root;exact h
    have hbst:∀o,(∀c fs,o≠.ins c fs)->st' b≠AA o:=λo ho h=>by
     have:=N2 b o (by simpa using hbna) ho h;rw[hb]at this;cases this;exact ho _ _ rfl
    rfl';∎;refine⟨b,"Node",_,.int 0,rfl,hb,hc _ ∎,rfl,?_⟩;rfl';refine⟨b,"Node",_,rfl,hb,hc _ ∎,by simp[ndF],?_⟩;rw[b18];have F3:FO st (dn::na::X) ((l1++pre)++(1,ce,b,f)::suf) (c9 s2 b (ndO ce lb xb 1 wb kb)):=FO.upd (h:=0) (w:=wb) (kd:=kb) (by rw[BV];exact F2) hb hkb;have d3:(c9 s2 b (ndO ce lb xb 1 wb kb)) nd=AA (ndO c la nl.length 0 w .non):=f8 d2 hbn.symm;have b3:(c9 s2 b (ndO ce lb xb 1 wb kb)) b=AA (ndO ce lb xb 1 wb kb):=f6;have N3:KpN [na] st' (c9 s2 b (ndO ce lb xb 1 wb kb)):=λb' o hb' ho h=>f8 (N2 b' o hb' ho h) (λz=>hbst o ho (z▸h));have K3:Kp [na] st (c9 s2 b (ndO ce lb xb 1 wb kb)):=λb' o hb' h=>f8 (K2 b' o hb' h) (λz=>by rw[z,hb0]at h;cases h);have na3:=f8 (u:=ndO ce lb xb 1 wb kb) na2 hbna.symm;have e01:((0:Int)+1)=1:=by decide
    rw[e01];show l5 _ _ _ _ (c9 s2 b (ndO ce lb xb 1 wb kb));revert F3 d3 b3 N3 K3 na3;generalize c9 s2 b (ndO ce lb xb 1 wb kb)=s3;intro F3 d3 b3 N3 K3 na3;∎;refine⟨nd,"Node",_,.int w,rfl,d3,hc _ ∎,rfl,?_⟩;rfl';refine⟨b,"Node",_,.int wb,rfl,b3,hc _ ∎,rfl,?_⟩;rfl';refine⟨nd,"Node",_,rfl,d3,hc _ ∎,by simp[ndF],?_⟩;rw[bb3];rfl';refine ih _ _ ⟨pre++[(1,ce,b,f)],suf,_,_,rfl,by rw[<-em];simp,λe he=>?_,λe he=>hs0 e (by simp[he]),rfl,?_,f6,λb' o hb' ho h=>f8 (N3 b' o hb' ho h) (λz=>by rw[z,hnd]at h;cases h),λb' o hb' h=>f8 (K3 b' o hb' h) (λz=>by rw[z,hnd0]at h;cases h),f8 na3 hndna⟩
    ·rcases Ap.mp he with he|he
     ·exact hp1 e he
     ·simp only[Am]at he;subst he;rfl
    ·have F4:FO st (dn::na::X) (l1++((pre++[(1,ce,b,f)])++suf)) s3:=by simpa using F3
     refine F4.stay (λb' hb' o ho=>f8 ho (fr b' ?_)) λb' o _ ho h=>f8 h (λz=>by rw[z,d3]at h;cases h;exact ho _ _ rfl);have hf:((pre++[((1:Int),ce,b,f)])++suf).map (·.2.2.2)=l2.map (·.2.2.2):=by
      have:=congrArg (GI (λz:Pg×AH×List AH=>z.2.2)) em;rw[BN,BN]at this;refine KS ?_ this;simp[Bp]
     rw[Ae,<-hf,<-Ae];exact hb'
 ·rintro dn d st' hdn ⟨l,nl,F,e1,e2,e3,e4,e5,e6⟩ K
  match l,e1 with
  |[e],e1=>
   have e1:e.2.1=p:=by simpa using e1
   have n:=F.nd e ∎;rw[e3 e ∎,e1]at n;have:d=.ref e.2.2.1:=by simpa using e2
   subst this;exact f7 (q _ _ st' (n.monoX (by intro y hy;simp[hy])) K)
end
structure KpI(R L:List AH)(st st':Sto):Prop where
 n:KpN L st st'
 i:∀b c la x h w kd,st b=AA (ndO c la x h w kd)->F5 kd->∃kd',F5 kd'/\st' b=AA (ndO c la x h w kd')
 e:∀b,st' b=AD->st b=AD
 k:∀b o,b∉L->b∉R->st b=AA o->st' b=AA o
section
variable {M:List AH} {s1 s2 s3:Sto} {p:AH} {o:Ob} {es:List D}
def N6{q}(h:c9 st p o q=AD):st q=AD:=by
 by_cases z:q=p
 ·rw[z,f6]at h;cases h
 ·cases e:st q with
  |none=>rfl
  |some u=>rw[f8 e z]at h;cases h
def KpI.refl:KpI R L st st:=⟨λ_ _ _ _ h=>h,λ_ _ _ _ _ _ kd h k=>⟨kd,k,h⟩,λ_ h=>h,λ_ _ _ _ h=>h⟩
def KpI.trans(a:KpI R L s1 s2)(b:KpI R L s2 s3):KpI R L s1 s3:=⟨λx o n ho h=>b.n x o n ho (a.n x o n ho h),λx c la y h w kd e k=>by
 obtain⟨kd1,k1,e1⟩:=a.i x c la y h w kd e k;exact b.i x c la y h w kd1 e1 k1,λx h=>a.e x (b.e x h),λx o n m h=>b.k x o n m (a.k x o n m h)⟩
def KpI.more(a:KpI R L s1 s2)(s:∀d∈L,d∈M):KpI R M s1 s2:=⟨λx o n ho=>a.n x o (λz=>n (s x z)) ho,a.i,a.e,λx o n m=>a.k x o (λz=>n (s x z)) m⟩
def KpI.new(a:KpI R L st st')(h:st' p=AD):KpI R L st (c9 st' p o):=a.trans ⟨λx o n ho e=>i7 e h,λx c la y h' w kd e k=>⟨kd,k,i7 e h⟩,λ_=>N6,λ_ _ _ _ e=>i7 e h⟩
def KpI.put(a:KpI R L st st')(h:p∈L)(hl:st' p=AA (.lst ds)):KpI R L st (c9 st' p o):=a.trans ⟨λx o n ho e=>f8 e λz=>n (z▸h),λx c la y h' w kd e k=>⟨kd,k,f8 e λz=>by rw[z,hl]at e;cases e⟩,λ_=>N6,λx o n _ e=>f8 e (λz=>n (z▸h))⟩
def KpI.drop(a:KpI R (p::L) st st')(h:st p=AD):KpI R L st st':=⟨λx o n ho e=>a.n x o (λz=>by rcases AK.mp z with z|z;exact j9 e h z;exact n z) ho e,a.i,a.e,λx o n m e=>a.k x o (λz=>by rcases AK.mp z with z|z;exact j9 e h z;exact n z) m e⟩
theorem KpI.lst(a:KpI R L st st')(h:st p=AA (.lst ds))(n:p∉L):st' p=AA (.lst ds):=a.n p _ n (λ_ _ z=>by cases z) h
def KA.noNode{b}{S}(K:KA sh dn sa pa wa S ws st){fl}(h:st b=AA (.ins "Node" fl)):b∉shL sh dn sa pa wa:=by
 intro z;simp only[AK,Aa,or_false]at z
 rcases z with rfl|rfl|rfl|rfl|rfl
 ·have:=K.A.ins;rw[h]at this;simp[p5]at this
 ·have:=K.A.num;rw[h]at this;simp at this
 ·have:=K.A.sto;rw[h]at this;simp at this
 ·have:=K.A.par;rw[h]at this;simp at this
 ·have:=K.W;rw[h]at this;simp at this
def KpI.ofKp{S:List It3}(K:KA sh dn sa pa wa S ws st)(K':KA sh dn sa pa wa S' ws' st')(x:Kp (shL sh dn sa pa wa) st st'):KpI R (shL sh dn sa pa wa) st st':=⟨λb o n _ h=>x b o n h,λb c la y h w kd e k=>⟨kd,k,x b _ (K.noNode e) e⟩,λb hb=>(by
 by_cases z:b∈shL sh dn sa pa wa
 ·simp only[AK,Aa,or_false]at z
  rcases z with rfl|rfl|rfl|rfl|rfl
  ·have:=K'.A.ins;rw[hb]at this;cases this
  ·have:=K'.A.num;rw[hb]at this;cases this
  ·have:=K'.A.sto;rw[hb]at this;cases this
  ·have:=K'.A.par;rw[hb]at this;cases this
  ·have:=K'.W;rw[hb]at this;cases this
 ·cases e:st b with
  |none=>rfl
  |some u=>rw[x b u z e]at hb;cases hb),λb o n _ h=>x b o n h⟩
def Nd.kpi{st0}{p}{a}(n:Nd st0 X st h p a f)(K:KpI R L st st')(hL:∀y∈L,y∈X):Nd st0 X st' h p a f:=by
 induction n with
 |@mk h p a la x w kd as fs h1 h2 h3 h4 h5 h6 h7 h8 _ ih=>
  obtain⟨kd',k',e'⟩:=K.i a p la x h w kd h1 h2;exact .mk e' k' (K.lst h3 λz=>h4 (hL _ z)) h4 h5 h6 h7 h8 ih
def Nd.addX{st0}{p}{a}{x}(n:Nd st0 X st h p a f)(hx:st x=AD):Nd st0 (x::X) st h p a f:=by
 induction n with
 |mk h1 h2 h3 h4 h5 h6 h7 h8 _ ih=>exact .mk h1 h2 h3 λz=>by simp_all h5 h6 h7 h8 ih
end
abbrev ay8(P:i9)(G:Gs)(n:Nat)(sh dn sa pa wa:AH)(nm:D):Prop:=∀(st:Sto)(S:List It3)(ws:List (Kd×Bool))(ca:AH)(p:Pg)(i:Nat)(a:Kd)(ks:List Kd)(Q:DK),KA sh dn sa pa wa S ws st->p.told 3->p.more i=1->p.nw ks i=AA a->st ca=AA (.lst (A4 S ks))->(∀k∈ks,Has S k.d)->S.length+128<=900000->StQ sh dn sa pa wa S ws st a Q->E6 P G n nm [p.d,.ref ca,.int i] st Q
abbrev ax8(P:i9)(G:Gs)(n:Nat)(sh dn sa pa wa:AH)(md:D):Prop:=∀(st:Sto)(S:List It3)(ws:List (Kd×Bool))(ca ka b la:AH)(p:Pg)(Γ:List Kd)(k:Kd)(ks:List Kd)(kn:List Int)(x h w:Int)(kd:D)(Q:DK),KA sh dn sa pa wa S ws st->p.told 3->p.kk Γ ks=AA k->st ca=AA (.lst (A4 S ks))->(∀k∈ks,Has S k.d)->st ka=AA (.lst (kn.map D.int))->KnOk S ws Γ kn->ca∉shL sh dn sa pa wa->S.length+128<=900000->st b=AA (ndO p la x h w kd)->F5 kd->(∀S' ws' st' kd',Has S' k.d->S <+: S'->S'.length<=S.length+128->KA sh dn sa pa wa S' ws' st'->WUp ws ws'->Kp (b::shL sh dn sa pa wa) st st'->st' b=AA (ndO p la x h w kd')->F5 kd'->Q (.int (nb S' k.d:Nat)) st')->E6 P G n md [.ref b,.ref ca,.ref ka] st Q
structure FS(sh dn sa pa wa ka ba aa da:AH)(S:List It3)(ws:List (Kd×Bool))(kn:List Int)(B A:List D)(st:Sto):Prop where
 K:KA sh dn sa pa wa S ws st
 k:st ka=AA (.lst (kn.map D.int))
 b:st ba=AA (.lst B)
 a:st aa=AA (.lst A)
 d:st da=AA (.dtt [])
@[reducible]noncomputable def fL(sh dn sa pa wa ka ba aa:AH):List AH:=ka::ba::aa::shL sh dn sa pa wa
abbrev J8:Ss:=match P8.body with
 |.cons _ (.cons _ (.cons _ (.cons (.while _ b) _)))=>b
 |_=>.nil
def O2{α}{xs}{x:α}:atI (xs++[x]) (-1)=AA x:=by
 unfold atI ixN;rw[if_neg ∅,if_pos (by simp;lia)];have:(-1+((xs.length:Int)+1)).toNat=xs.length:=by lia
 simp[this]
section
variable (T:PNo P G) {S:List It3} 
include T
def bx8(hnm:Cok P nm)(N:ay8 P G (n+1) sh dn sa pa wa nm)(dj:(ka::ba::aa::da::shL sh dn sa pa wa).Nodup){F:DEnds}{kn:List Int}{B:List D}{a:AH}{x w:Int}{as:List AH}{x7 x8 x9 x10:Option D}{c:Pg}{b:AH}{Δ:List Kd}
  (H:FS sh dn sa pa wa ka ba aa da S ws kn (B++[.ref a]) (A++[.ref ca]) st) (hc:st ca=AA (.lst (A4 S ks))) (hh:∀k∈ks,Has S k.d) (ha:st a=AA (ndO p la x h w kd)) (hkd:F5 kd) (h1:h<=1) (hl:st la=AA (.lst (as.map D.ref))) (hi:p.kids[ks.length]?=AA c) (hb:as[ks.length]?=AA b) (ht:p.told 3) (hC:Cxt p ks ks.length Γ Δ) (hkn:KnOk S ws Γ kn) (hS:S.length+128<=900000) (hB:B.length+1<100000) (hA:A.length+1<100000) (hK:kn.length<100000) (hcl:ca∉ka::ba::aa::da::shL sh dn sa pa wa) (hll:la∉ka::ba::aa::da::shL sh dn sa pa wa)
  (q:∀S' ws' st' kn' cb y7 y8 y9 y10,FS sh dn sa pa wa ka ba aa da S' ws' kn' (B++[.ref a]++[.ref b]) (A++[.ref ca]++[.ref cb]) st'->st' cb=AA (.lst [])->st cb=AD->S <+: S'->S'.length<=S.length+128->WUp ws ws'->KnOk S' ws' Δ kn'->kn'.take kn.length=kn->kn'.length=kn.length+p.more ks.length->KpI R (fL sh dn sa pa wa ka ba aa) st st'->F.ct [AA nd,AA (.ref ka),AA nm,AA md,AA (.ref ba),AA (.ref aa),AA (.ref da),y7,y8,y9,y10] st') :
  l5 (Zg P G (n+1)) J8 F [AA nd,AA (.ref ka),AA nm,AA md,AA (.ref ba),AA (.ref aa),AA (.ref da),x7,x8,x9,x10] st:=by
 have hcl':∀f∈([("program":Str),("inside":Str),("number":Str),("holders":Str),("ways":Str),("used":Str),("kind":Str)]:List Str),f∈G.cls "Node":=λf hf=>by rw[T.ncl];exact hf
 unfold J8 P8;simp only;∎;rw[n8 (.inl H.b)];refine⟨_,O2,?_⟩;∎;rw[n8 (.inl H.a)];refine⟨_,O2,?_⟩;rw[z0 (.inl hc)];∎;refine⟨a,"Node",_,.int h,rfl,ha,hcl' _ ∎,rfl,?_⟩;rfl';rw[if_neg ⋯];∎;refine⟨H.d,?_⟩;rfl';refine⟨a,"Node",_,.ref la,rfl,ha,hcl' _ ∎,rfl,?_⟩;rw[z0 (.inl hl)];rfl';have hlen:(A4 S ks).length=ks.length:=by simp[A4]
 have hlt:=(AX.mp hb).1;rw[if_pos (by rw[hlen,AT];lia),hlen];simp only[BU,AK,Aa,or_false,not_or]at dj;obtain⟨⟨d1,d2,d3,d4⟩,⟨d5,d6,d7⟩,⟨d8,d9⟩,d10,_⟩:=dj;simp only[AK,Aa,or_false,not_or]at hcl hll;have l6:∀(F':DEnds)S' ws' st' kn',F'.ct=F.ct->FS sh dn sa pa wa ka ba aa da S' ws' kn' (B++[.ref a]) (A++[.ref ca]) st'->S <+: S'->S'.length<=S.length+128->WUp ws ws'->KnOk S' ws' Δ kn'->kn'.take kn.length=kn->kn'.length=kn.length+p.more ks.length->KpI R (fL sh dn sa pa wa ka ba aa) st st' ->
   l5 (Zg P G (n+1)) (.cons (.ex (.app (.v 4) (.ix (.fld (.v 7) "inside") (.v 8)))) (.cons (.ex (.app (.v 5) (.lst .nil))) (.cons .cont .nil))) F' [AA nd,AA (.ref ka),AA nm,AA md,AA (.ref ba),AA (.ref aa),AA (.ref da),AA (.ref a),AA (.int ks.length),AA .non,x10] st':=by
  intro F' S' ws' st' kn' eF H' e1 e2 e3 e4 e5 e6 e7;obtain⟨kd',_,ha'⟩:=e7.i a p la x h w kd ha hkd;have hl':=e7.lst hl (by simp[hll]);∎;rw[u0 (.inl H'.b)];refine⟨trivial,a,"Node",_,.ref la,rfl,ha',hcl' _ ∎,rfl,?_⟩;rw[n8 (.inl hl')];refine⟨.ref b,by rw[E1,Aj,hb];rfl,?_⟩;rw[C6 H'.b];refine⟨C4 (by simp;lia),?_⟩;∎;rw[u0 (.inl (f8 H'.a (BE d5)))];refine⟨trivial,λcb hcb=>?_⟩;have ncb:=N6 hcb;have cbb:ba≠cb:=j9 H'.b ncb;have cba:aa≠cb:=j9 H'.a ncb;rw[C6 (i7 (f8 H'.a (BE d5)) hcb)];refine⟨C4 (by simp;lia),?_⟩;∎;rw[eF];have K1:Kp [ba,aa] st' (c9 (c9 (c9 st' ba (.lst (B++[.ref a]++[.ref b]))) cb (.lst [])) aa (.lst (A++[.ref ca]++[.ref cb]))):=((Kp.refl.put ∎).new hcb).put ∎;refine q S' ws' _ kn' cb _ _ _ _ ⟨H'.K.keepL K1 ?_,K1.at' H'.k (by simp[d1,d2]),f8 (f8 f6 cbb) d5,f6,K1.at' H'.d (by simp[BE d6,BE d8])⟩ (f8 f6 (BE cba)) (e7.e _ ncb) e1 e2 e3 e4 e5 e6 (((e7.put ∎ H'.b).new hcb).put ∎ (i7 (f8 H'.a (BE d5)) hcb));intro y hy;simp only[AK,Aa,or_false]at hy ⊢
  rcases hy with rfl|rfl
  ·simp[d7]
  ·simp[d9]
 ∎;refine⟨by rw[T.more];rfl,a,"Node",_,p.d,rfl,ha,hcl' _ ∎,rfl,be4 T.toPIn p ks.length ?_⟩;rfl'
 rcases hC with⟨m0,rfl⟩|⟨m1,a0,hw,rfl⟩
 ·simp only[m0];rw[if_neg ∅];exact l6 _ S ws st kn rfl H (DI _) ⋯ rfl hkn (Eo ..) ⋯ KpI.refl
 ·simp only[m1];∎;rw[u0 (.inl H.k)];refine⟨trivial,ag3 hnm ?_⟩;rfl';refine⟨a,"Node",_,p.d,rfl,ha,hcl' _ ∎,rfl,?_⟩;rw[n8 (.inl H.a)];refine⟨_,O2,?_⟩;refine N st S ws ca p ks.length a0 ks _ H.K ht m1 hw hc hh hS λS' ws' st' g1 g2 g3 g4 g5 g6=>?_;have hk':=g6.at' H.k (by simp[d4]);rw[C6 hk'];refine⟨C4 (by simp;lia),?_⟩;have ek:kn.map D.int++[D.int (nb S' a0.d:Nat)]=(kn++[((nb S' a0.d:Nat):Int)]).map D.int:=by simp
  rw[ek];have K1:Kp [ka] st' (c9 st' ka (.lst ((kn++[((nb S' a0.d:Nat):Int)]).map D.int))):=Kp.refl.put ∎;refine l6 _ S' ws' _ (kn++[((nb S' a0.d:Nat):Int)]) rfl ⟨g4.keepL K1 (by simp[d4]),f6,f8 (g6.at' H.b (by simp[d7])) (BE d1),f8 (g6.at' H.a (by simp[d9])) (BE d2),f8 (g6.at' H.d (by simp[d10])) (BE d3)⟩ g2 g3 g5 ((hkn.up g4.A.wf g2 g5).cons (.inl ⟨rfl,g1⟩)) ∎ (by simp[m1]) (((KpI.ofKp H.K g4 g6).more (by intro y hy;simp only[AK,Aa,or_false]at hy ⊢;simp[hy])).put ∎ hk')
end
def KpI.ofMd{b:AH}{S:List It3}{c:Pg}{x w:Int}(K:KA sh dn sa pa wa S ws st)(K':KA sh dn sa pa wa S' ws' st')(y:Kp (b::shL sh dn sa pa wa) st st')(hb:st b=AA (ndO c la x h w kd))(hb':st' b=AA (ndO c la x h w kd'))(hk:F5 kd')(hbR:b∈R):KpI R (shL sh dn sa pa wa) st st':=by
 refine⟨λz o n ho e=>y z o (λq=>?_) e,λz c2 la2 x2 h2 w2 kd2 e k=>?_,λz hz=>?_,λz o n m e=>y z o (λq=>by rcases AK.mp q with rfl|q;exact m hbR;exact n q) e⟩
 ·rcases AK.mp q with rfl|q
  ·rw[hb]at e;cases e;exact ho _ _ rfl
  ·exact n q
 ·by_cases q:z=b
  ·subst q;rw[hb]at e;refine⟨kd',hk,?_⟩;rw[hb'];simp only[ndO,ndF,Cf,Ob.ins.injEq,AY,JK,true_and,and_true]at e ⊢;exact⟨e.1,e.2.1,e.2.2.1,e.2.2.2.1,e.2.2.2.2.1⟩
  ·refine⟨kd2,k,y z _ (λt=>?_) e⟩
   rcases AK.mp t with t|t
   ·exact q t
   ·exact K.noNode e t
 ·by_cases q:z∈shL sh dn sa pa wa
  ·simp only[AK,Aa,or_false]at q
   rcases q with rfl|rfl|rfl|rfl|rfl
   ·have:=K'.A.ins;rw[hz]at this;cases this
   ·have:=K'.A.num;rw[hz]at this;cases this
   ·have:=K'.A.sto;rw[hz]at this;cases this
   ·have:=K'.A.par;rw[hz]at this;cases this
   ·have:=K'.W;rw[hz]at this;cases this
  ·cases e:st z with
   |none=>rfl
   |some u=>
    by_cases t:z=b
    ·subst t;rw[hb']at hz;cases hz
    ·rw[y z u (by simp only[AK,not_or];exact⟨t,by simpa using q⟩) e]at hz;cases hz
def be7(p:Pg)(i:Nat):p.more i=0\/p.more i=1:=by
 cases p<;>first|exact .inl rfl|(simp only[Pg.more];split<;>simp)
abbrev Ss.tl:Ss->Ss
 |.cons _ r=>r
 |.nil=>.nil
abbrev ad1:Ss:=J8.tl.tl.tl.tl.tl.tl.tl.tl
section
variable (T:PNo P G) {S:List It3} 
include T
def bb7(hmd:Cok P md)(M:ax8 P G (n+1) sh dn sa pa wa md)(dj:(ka::ba::aa::da::shL sh dn sa pa wa).Nodup){F:DEnds}{kn:List Int}{B:List D}{b cb:AH}{x w:Int}{as:List AH}{x7 x8 x9 x10:Option D}{c:Pg}{Δ:List Kd}{k:Kd}
  (H:FS sh dn sa pa wa ka ba aa da S ws kn (B++[.ref b]) (A++[.ref cb]) st) (hc:st cb=AA (.lst (A4 S ks))) (hh:∀k∈ks,Has S k.d) (hb:st b=AA (ndO c la x h w kd)) (hkd:F5 kd) (h1:h<=1) (hl:st la=AA (.lst (as.map D.ref))) (hn:as.length=ks.length) (ht:c.told 3) (hk:c.kk Δ ks=AA k) (hkn:KnOk S ws Δ kn) (hS:S.length+128<=900000) (hcl:cb∉shL sh dn sa pa wa) (hbR:b∈R)
  (q:∀S' ws' st' y7 y8,FS sh dn sa pa wa ka ba aa da S' ws' kn B A st'->Has S' k.d->S <+: S'->S'.length<=S.length+128->WUp ws ws'->KpI R (fL sh dn sa pa wa ka ba aa) st st'->l5 (Zg P G (n+1)) ad1 F [AA nd,AA (.ref ka),AA nm,AA md,AA (.ref ba),AA (.ref aa),AA (.ref da),y7,y8,AA .non,AA (.int (nb S' k.d:Nat))] st') :
  l5 (Zg P G (n+1)) J8 F [AA nd,AA (.ref ka),AA nm,AA md,AA (.ref ba),AA (.ref aa),AA (.ref da),x7,x8,x9,x10] st:=by
 have hcl':∀f∈([("program":Str),("inside":Str),("number":Str),("holders":Str),("ways":Str),("used":Str),("kind":Str)]:List Str),f∈G.cls "Node":=λf hf=>by rw[T.ncl];exact hf
 unfold J8 P8;simp only;∎;rw[n8 (.inl H.b)];refine⟨_,O2,?_⟩;∎;rw[n8 (.inl H.a)];refine⟨_,O2,?_⟩;rw[z0 (.inl hc)];∎;refine⟨b,"Node",_,.int h,rfl,hb,hcl' _ ∎,rfl,?_⟩;rfl';rw[if_neg ⋯];∎;refine⟨H.d,?_⟩;rfl';refine⟨b,"Node",_,.ref la,rfl,hb,hcl' _ ∎,rfl,?_⟩;rw[z0 (.inl hl)];rfl';have hlen:(A4 S ks).length=ks.length:=by simp[A4]
 rw[if_neg (by rw[hlen,AT];lia),hlen];simp only[BU,AK,Aa,or_false,not_or]at dj;obtain⟨⟨d1,d2,d3,d4⟩,⟨d5,d6,d7⟩,⟨d8,d9⟩,d10,_⟩:=dj;∎;refine⟨H.d,?_⟩;rfl';refine ag3 hmd ?_;rfl';rw[n8 (.inl H.a)];refine⟨_,O2,?_⟩;refine M st S ws cb ka b la c Δ k ks kn x h w kd _ H.K ht hk hc hh H.k hkn hcl hS hb hkd λS' ws' st' kd' g1 g2 g3 g4 g5 g6 g7 g8=>?_;have nb0:∀{y:AH}{ds:List D},st y=AA (.lst ds)->y≠b:=λe z=>by rw[z,hb]at e;cases e
 have hb1:=g6.at' H.b (by simp only[AK,Aa,or_false,not_or];exact⟨nb0 H.b,d7⟩);have ha1:=g6.at' H.a (by simp only[AK,Aa,or_false,not_or];exact⟨nb0 H.a,d9⟩);have hk1:=g6.at' H.k (by simp only[AK,Aa,or_false,not_or];exact⟨nb0 H.k,d4⟩);have hd1:=g6.at' H.d (by simp only[AK,Aa,or_false,not_or];exact⟨λz=>(by have:=H.d;rw[z,hb]at this;cases this),d10⟩);∎;refine .inl ?_;∎;rw[Q9 hb1];∎;rw[Q9 (f8 ha1 (BE d5))];have K1:Kp [ba,aa] st' (c9 (c9 st' ba (.lst B)) aa (.lst A)):=(Kp.refl.put ∎).put ∎;refine q S' ws' _ _ _ ⟨g4.keepL K1 ?_,K1.at' hk1 (by simp[d1,d2]),f8 f6 d5,f6,K1.at' hd1 (by simp[BE d6,BE d8])⟩ g1 g2 g3 g5 ((((KpI.ofMd H.K g4 g6 hb g7 g8 hbR).more (by intro y hy;simp only[AK,Aa,or_false]at hy ⊢;simp[hy])).put ∎ hb1).put ∎ (f8 ha1 (BE d5)));intro y hy;simp only[AK,Aa,or_false]at hy ⊢
 rcases hy with rfl|rfl
 ·simp[d7]
 ·simp[d9]
theorem b50{F:DEnds}{kn:List Int}{y7 y8 y9:Option D}{r:D}(H:FS sh dn sa pa wa ka ba aa da S ws kn [] A st)(q:F.rt r st):l5 (Zg P G (n+1)) ad1 F [AA nd,AA (.ref ka),AA nm,AA md,AA (.ref ba),AA (.ref aa),AA (.ref da),y7,y8,y9,AA r] st:=by
 simp only[ad1,J8,P8,Ss.tl];∎;rw[z0 (.inl H.b)];rfl';rw[if_pos ∅];∎;exact q
def cj7(dj:(ka::ba::aa::da::shL sh dn sa pa wa).Nodup){F:DEnds}{kn kn0:List Int}{B:List D}{a:AH}{x w:Int}{y7 y8 y9:Option D}{r:D}{rs:List D}(H:FS sh dn sa pa wa ka ba aa da S ws kn (B++[.ref a]) (A++[.ref ca]) st)(hc:st ca=AA (.lst rs))(hl:rs.length<100000)(ha:st a=AA (ndO p la x h w kd))(hcl:ca∉ka::ba::aa::da::shL sh dn sa pa wa)(k1:kn.take kn0.length=kn0)(k2:kn.length=kn0.length+p.more rs.length)
  (q:∀st',FS sh dn sa pa wa ka ba aa da S ws kn0 (B++[.ref a]) (A++[.ref ca]) st'->st' ca=AA (.lst (rs++[r]))->KpI R (ca::fL sh dn sa pa wa ka ba aa) st st'->F.nx [AA nd,AA (.ref ka),AA nm,AA md,AA (.ref ba),AA (.ref aa),AA (.ref da),y7,y8,y9,AA r] st'):l5 (Zg P G (n+1)) ad1 F [AA nd,AA (.ref ka),AA nm,AA md,AA (.ref ba),AA (.ref aa),AA (.ref da),y7,y8,y9,AA r] st:=by
 have hcl':∀f∈([("program":Str),("inside":Str),("number":Str),("holders":Str),("ways":Str),("used":Str),("kind":Str)]:List Str),f∈G.cls "Node":=λf hf=>by rw[T.ncl];exact hf
 simp only[BU,AK,Aa,or_false,not_or]at dj hcl;obtain⟨⟨d1,d2,d3,d4⟩,⟨d5,d6,d7⟩,⟨d8,d9⟩,d10,_⟩:=dj;obtain⟨c1,c2,c3,c4,c5⟩:=hcl;simp only[ad1,J8,P8,Ss.tl];∎;rw[z0 (.inl H.b)];rfl';rw[if_neg (by simp only[Ac,AW,BK];lia)];have l6:∀st',FS sh dn sa pa wa ka ba aa da S ws kn0 (B++[.ref a]) (A++[.ref ca]) st'->st' ca=AA (.lst rs)->KpI R (ca::fL sh dn sa pa wa ka ba aa) st st'->l5 (Zg P G (n+1)) (.cons (.ex (.app (.ix (.v 5) (.neg (.int 1))) (.v 10))) .nil) F [AA nd,AA (.ref ka),AA nm,AA md,AA (.ref ba),AA (.ref aa),AA (.ref da),y7,y8,y9,AA r] st':=by
  intro st' H' hc' KI;∎;rw[n8 (.inl H'.a)];refine⟨_,O2,?_⟩;rw[u0 (.inl hc')];refine⟨trivial,?_⟩;rw[C6 hc'];refine⟨C4 ⋯,?_⟩;have K1:Kp [ca] st' (c9 st' ca (.lst (rs++[r]))):=Kp.refl.put ∎;exact q _ ⟨H'.K.keepL K1 (by simp[c5]),K1.at' H'.k (by simp[BE c1]),K1.at' H'.b (by simp[BE c2]),K1.at' H'.a (by simp[BE c3]),K1.at' H'.d (by simp[BE c4])⟩ f6 (KI.put ∎ hc')
 ∎;refine⟨by rw[T.more];rfl,?_⟩;rw[n8 (.inl H.b)];refine⟨_,O2,a,"Node",_,p.d,rfl,ha,hcl' _ ∎,rfl,?_⟩;rw[n8 (.inl H.a)];refine⟨_,O2,?_⟩;rw[z0 (.inl hc)];refine be4 T.toPIn p rs.length ?_;rfl';have hm:=be7 p rs.length
 rcases hm with hm|hm
 ·rw[hm]at k2 ⊢;rw[if_neg ∅];have e:kn=kn0:=by rw[CZ ⋯]at k1;exact k1
  subst e;exact l6 st H hc KpI.refl
 ·rw[hm]at k2 ⊢;rw[if_pos ∅];obtain⟨e,rfl⟩:∃e,kn=kn0++[e]:=by
   have h3:(kn.drop kn0.length).length=1:=by rw[EH];lia
   match h4:kn.drop kn0.length,h3 with
   |[e],_=>exact⟨e,by have:=FC kn0.length kn;rw[k1,h4]at this;exact this.symm⟩
  have hk:=H.k;rw[Ae]at hk;∎;rw[Q9 hk];have K1:Kp [ka] st (c9 st ka (.lst (kn0.map D.int))):=Kp.refl.put ∎;exact l6 _ ⟨H.K.keepL K1 (by simp[d4]),f6,K1.at' H.b (by simp[BE d1]),K1.at' H.a (by simp[BE d2]),K1.at' H.d (by simp[BE d3])⟩ (K1.at' hc (by simp[c1])) (KpI.refl.put ∎ hk)
end
def FS.fresh{cb:AH}{S:List It3}{kn:List Int}{B:List D}(H:FS sh dn sa pa wa ka ba aa da S ws kn B A st)(h:st cb=AD):cb∉ka::ba::aa::da::shL sh dn sa pa wa:=by
 intro z;simp only[AK,Aa,or_false]at z
 rcases z with rfl|rfl|rfl|rfl|rfl|rfl|rfl|rfl|rfl
 ·have:=H.k;rw[h]at this;cases this
 ·have:=H.b;rw[h]at this;cases this
 ·have:=H.a;rw[h]at this;cases this
 ·have:=H.d;rw[h]at this;cases this
 ·have:=H.K.A.ins;rw[h]at this;cases this
 ·have:=H.K.A.num;rw[h]at this;cases this
 ·have:=H.K.A.sto;rw[h]at this;cases this
 ·have:=H.K.A.par;rw[h]at this;cases this
 ·have:=H.K.W;rw[h]at this;cases this
def wl{Z}{tb}{F}{t}{env}(h:tb {F with nx:=B8 (wpT Z (.bl AC)) tb F t,ct:=B8 (wpT Z (.bl AC)) tb F t,bk:=F.nx} env st):B8 (wpT Z (.bl AC)) tb F (t+1) env st:=⟨AC,rfl,h⟩
def cb4{S}(w:Wf S')(hp:S <+: S')(h:∀k∈ks,Has S k.d):A4 S' ks=A4 S ks:=FX λk hk=>by rw[T5 w (h k hk) hp]
section
variable (T:PNo P G) 
include T
def b19(hnm:Cok P nm)(N:ay8 P G (n+1) sh dn sa pa wa nm)(hmd:Cok P md)(M:ax8 P G (n+1) sh dn sa pa wa md)(dj:(ka::ba::aa::da::shL sh dn sa pa wa).Nodup){F:DEnds}:∀(z:Nat)(p:Pg),p.parts<=z->p.kn 3->∀{Γ:List Kd}{k:Kd}{h:Int}{st0 st:Sto}{X:List AH}{S:List It3}{ws:List (Kd×Bool)}{kn:List Int}{B A:List D}{a ca:AH}{f:List AH}{x7 x8 x9 x10:Option D}{m:Nat},
  p.kind Γ=AA k->h<=1->Nd st0 X st h p a f->(∀y∈f,y∈R)->(∀y∈ca::da::fL sh dn sa pa wa ka ba aa,y∈X)->FS sh dn sa pa wa ka ba aa da S ws kn (B++[.ref a]) (A++[.ref ca]) st->st ca=AA (.lst [])->KnOk S ws Γ kn->S.length+256*p.parts<=900000->B.length+p.parts<100000->A.length+p.parts<100000->kn.length+p.parts<100000->ca∉ka::ba::aa::da::shL sh dn sa pa wa ->
  (∀S' ws' st' ks y7 y8 y9 y10,FS sh dn sa pa wa ka ba aa da S' ws' kn (B++[.ref a]) (A++[.ref ca]) st'->st' ca=AA (.lst (A4 S' ks))->ks.length=p.kids.length->(∀k∈ks,Has S' k.d)->p.kk Γ ks=AA k->S <+: S'->S'.length+256<=S.length+256*p.parts->WUp ws ws'->KpI R (ca::fL sh dn sa pa wa ka ba aa) st st'->B8 (wpT (Zg P G (n+1)) (.bl AC)) (l5 (Zg P G (n+1)) J8) F m [AA nd,AA (.ref ka),AA nm,AA md,AA (.ref ba),AA (.ref aa),AA (.ref da),y7,y8,y9,y10] st') ->
  B8 (wpT (Zg P G (n+1)) (.bl AC)) (l5 (Zg P G (n+1)) J8) F (m+2*(p.parts-1)) [AA nd,AA (.ref ka),AA nm,AA md,AA (.ref ba),AA (.ref aa),AA (.ref da),x7,x8,x9,x10] st:=by
 intro z
 induction z with
 |zero=>intro p hz;have:=Pg.parts_kids p;lia
 |succ z ih=>
  intro p hz hkn7 Γ k h st0 st X S ws kn B A a ca f x7 x8 x9 x10 m hk h1 nd0 hR hX H hc hkn hS hB hA hK hcl q;obtain⟨ks,kl,hkk,hkid⟩:=Pg.kind_inv hk;have hpk:=Pg.parts_kids p;have inner:∀(j i:Nat),i+j=p.kids.length->∀{S1:List It3}{ws1:List (Kd×Bool)}{st1:Sto}{y7 y8 y9 y10:Option D},FS sh dn sa pa wa ka ba aa da S1 ws1 kn (B++[.ref a]) (A++[.ref ca]) st1->st1 ca=AA (.lst (A4 S1 (ks.take i)))->(∀k∈ks.take i,Has S1 k.d)->S <+: S1->S1.length+256*((p.kids.drop i).map Pg.parts).sum+256<=S.length+256*p.parts->WUp ws ws1->KpI R (ca::fL sh dn sa pa wa ka ba aa) st st1->B8 (wpT (Zg P G (n+1)) (.bl AC)) (l5 (Zg P G (n+1)) J8) F (m+2*((p.kids.drop i).map Pg.parts).sum) [AA nd,AA (.ref ka),AA nm,AA md,AA (.ref ba),AA (.ref aa),AA (.ref da),y7,y8,y9,y10] st1:=by
   intro j
   induction j with
   |zero=>
    intro i hi S1 ws1 st1 y7 y8 y9 y10 H1 hc1 hh1 p1 l1 w1 K1;rw[Ep ⋯]at l1 ⊢;rw[CZ ⋯]at hc1 hh1;simp only[CG,HB,Ja,JZ]at l1 ⊢;exact q S1 ws1 st1 ks _ _ _ _ H1 hc1 kl hh1 hkk p1 l1 w1 K1
   |succ j ihj=>
    intro i hi S1 ws1 st1 y7 y8 y9 y10 H1 hc1 hh1 p1 l1 w1 K1;have hil:i<p.kids.length:=by lia
    obtain⟨c,hci⟩:∃c,p.kids[i]?=AA c:=⟨_,AM hil⟩;obtain⟨a0,Δ,hai,hC,hck⟩:=hkid i c hci;have hdr:p.kids.drop i=c::p.kids.drop (i+1):=by
     rw[DF hil];rw[AM hil]at hci;cases hci;rfl
    rw[hdr]at l1 ⊢;simp only[AZ,Dt]at l1 ⊢;have cpos:=Pg.parts_kids c;have hcm:c∈p.kids:=At hci;have hcs:=W5 Pg.parts hcm;have htl:(ks.take i).length=i:=by rw[DZ];lia
    have n1:=nd0.kpi K1 (λy hy=>hX y (by simp only[AK]at hy ⊢;rcases hy with h|h;exact .inl h;exact .inr (.inr h)));obtain⟨hkX⟩:Nonempty (p.told 3):=⟨Pg.told_kn hkn7⟩;generalize hr:((p.kids.drop (i+1)).map Pg.parts).sum=r at l1 ⊢;rw[show m+2*(c.parts+r)=((m+2*r+1)+2*(c.parts-1))+1 by lia];refine wl ?_;cases n1 with
    |@mk _ _ _ la x w kd as fs e1 e2 e3 e4 e5 e6 e7 e8 e9=>
    obtain⟨b,hbi⟩:∃b,as[i]?=AA b:=⟨_,AM ⋯⟩;obtain⟨fb,hfi⟩:∃b,fs[i]?=AA b:=⟨_,AM ⋯⟩;have nb1:=e9 i c b fb hci hbi hfi;have hRb:∀y∈fb,y∈R:=λy hy=>hR y (As _ (Cb.mpr ⟨fb,At hfi,hy⟩));have hla:la∉ka::ba::aa::da::shL sh dn sa pa wa:=λz=>e4 (hX _ (by simp only[AK,Aa,or_false]at z ⊢;rcases z with z|z|z|z|z|z|z|z|z<;>simp[z]));refine bx8 (R:=R) T hnm N dj (ks:=ks.take i) (Γ:=Γ) (Δ:=Δ) H1 hc1 hh1 e1 e2 h1 e3 (by rw[htl];exact hci) (by rw[htl];exact hbi) hkX (by rw[htl];exact hC) (hkn.up H1.K.A.wf p1 w1) ⋯ ⋯ ⋯ ⋯ hcl hla λS2 ws2 st2 kn2 cb v7 v8 v9 v10 H2 hcb hcb0 p2 l2 w2 k2 k3 k4 K2=>?_;rw[htl]at k4;have cbf:=H1.fresh hcb0;have hm01:=be7 p i;have nb2:=(nb1.addX hcb0).kpi K2 (λy hy=>As _ (hX y (by simp only[AK]at hy ⊢;exact .inr (.inr hy))));refine ih c ⋯ (Pg.kn_kids p hkn7 c hcm) hck ∅ nb2 hRb (λy hy=>by
     rcases AK.mp hy with rfl|hy
     ·simp
     ·exact As _ (hX y (As _ hy))) H2 hcb k2 ⋯ (by simp;lia) (by simp;lia) ⋯ cbf λS3 ws3 st3 ks3 u7 u8 u9 u10 H3 hc3 kl3 hh3 hkk3 p3 l3 w3 K3=>?_
    refine wl ?_;have nb3:=nb2.kpi K3 (λy hy=>by
     rcases AK.mp hy with rfl|hy
     ·simp
     ·exact As _ (hX y (by simp only[AK]at hy ⊢;exact .inr (.inr hy))))
    cases nb3 with
    |@mk _ _ _ lb xb wb kdb asb fsb b1 b2 b3 b4 b5 b6 b7 b8 b9=>
    refine bb7 (R:=R) T hmd M dj H3 hc3 hh3 b1 b2 ∅ b3 ⋯ (Pg.told_kn (Pg.kn_kids p hkn7 c hcm)) hkk3 (k2.up H3.K.A.wf p3 w3) ⋯ (by simp only[AK,Aa,or_false,not_or]at cbf ⊢;simp[cbf]) (hRb b (by obtain⟨_,_,_,_,_,_,h,_⟩:=nb1.root;exact h)) λS4 ws4 st4 t7 t8 H4 g1 p4 l4 w4 K4=>?_;have K14:KpI R (ca::fL sh dn sa pa wa ka ba aa) st1 st4:=by
     refine KpI.drop (p:=cb) ?_ hcb0;exact((K2.more (λd hd=>by simp only[AK]at hd ⊢;exact .inr (.inr hd))).trans (K3.more (λd hd=>by simp only[AK]at hd ⊢;rcases hd with h|h;exact .inl h;exact .inr (.inr h)))).trans (K4.more (λd hd=>by simp only[AK]at hd ⊢;exact .inr (.inr hd)))
    have hcaf:ca∉fL sh dn sa pa wa ka ba aa:=by simp only[AK,Aa,or_false,not_or]at hcl ⊢;simp[hcl]
    have hcab:ca≠cb:=j9 hc1 hcb0;have hca4:st4 ca=AA (.lst (A4 S1 (ks.take i))):=K4.lst (K3.lst (K2.lst hc1 hcaf) (by simp only[AK,not_or];simp only[AK,not_or]at hcaf;exact⟨hcab,hcaf⟩)) hcaf;obtain⟨kd4,_,ha4⟩:=K14.i a p la x h w kd e1 e2;have hp14:S1 <+: S4:=p2.trans (p3.trans p4);refine cj7 (R:=R) T dj (p:=p) (kn0:=kn) H4 hca4 (by have:=at6 Pg.parts_kids p.kids;simp only[A4,AT,htl];lia) ha4 hcl k3 (by rw[k4];simp only[A4,AT,htl]) λst5 H5 hc5 K5=>?_;have ek:ks.take (i+1)=ks.take i++[a0]:=by rw[List.take_succ,hai];rfl
    rw[<-hr];refine ihj (i+1) ⋯ H5 ?_ ?_ (p1.trans hp14) (by rw[hr];lia) (w1.trans (w2.trans (w3.trans w4))) (K1.trans (K14.trans K5))
    ·rw[hc5,ek];have:A4 S4 (ks.take i++[a0])=A4 S4 (ks.take i)++[.int (nb S4 a0.d:Nat)]:=by simp[A4]
     rw[this,cb4 H4.K.A.wf hp14 hh1]
    ·rw[ek];intro y hy
     rcases Ap.mp hy with hy|hy
     ·exact(hh1 y hy).mono hp14
     ·simp only[Am]at hy;subst hy;exact g1
  have:=inner p.kids.length 0 ⋯ (y7:=x7) (y8:=x8) (y9:=x9) (y10:=x10) H (by simpa[A4]using hc) ∎ (DI _) (by simp only[Ig];lia) rfl KpI.refl;simp only[Ig]at this;rw[show p.parts-1=(p.kids.map Pg.parts).sum by lia];exact this
end
def KA.fresh{x}{S}(K:KA sh dn sa pa wa S ws st)(h:st x=AD):x∉shL sh dn sa pa wa:=by
 intro z;simp only[AK,Aa,or_false]at z
 rcases z with rfl|rfl|rfl|rfl|rfl
 ·have:=K.A.ins;rw[h]at this;cases this
 ·have:=K.A.num;rw[h]at this;cases this
 ·have:=K.A.sto;rw[h]at this;cases this
 ·have:=K.A.par;rw[h]at this;cases this
 ·have:=K.W;rw[h]at this;cases this
def ShD.all(h:ShD sh dn sa pa wa):(shL sh dn sa pa wa).Nodup:=by
 have h1:=h.nd;have h2:=h.wd;have h3:=h.ws;grind
section
variable (T:PNo P G) {S:List It3} 
include T
def bw7(hnm:Cok P nm)(N:ay8 P G (n+1) sh dn sa pa wa nm)(hmd:Cok P md)(M:ax8 P G (n+1) sh dn sa pa wa md){p:Pg}{k:Kd}{st0:Sto}{kn:List Int}{a:AH}(hkt:G.cls "!kt"≠[])(hk:p.kind Γ=AA k)(h7:p.kn 3)(nd:Nd st0 X st 0 p a f)(K:KA sh dn sa pa wa S ws st)(hka:st ka=AA (.lst (kn.map D.int)))(hkn:KnOk S ws Γ kn)(hS:S.length+256*p.parts<=900000)(hkl:kn.length<=50000)(hks:ka∉shL sh dn sa pa wa)(hX:∀y∈ka::shL sh dn sa pa wa,y∈X)
  (q:∀S' ws' st',Has S' k.d->KA sh dn sa pa wa S' ws' st'->KpI f (ka::shL sh dn sa pa wa) st st'->Q (.int (nb S' k.d:Nat)) st'):sem P G (n+2) "folded" [.ref a,.ref ka,nm,md] st Q:=by
 refine i5 T.fol rfl [AA (.ref a),AA (.ref ka),AA nm,AA md,AD,AD,AD,AD,AD,AD,AD] rfl ?_;unfold P8;∎;intro ba hba;∎;intro ca hca;intro aa haa;∎;refine⟨hkt,λda hda=>?_⟩;have ba0:st ba=AD:=hba;have ca0:st ca=AD:=N6 hca;have aa0:st aa=AD:=N6 (N6 haa);have da0:st da=AD:=N6 (N6 (N6 hda));have cb:ba≠ca:=j9 f6 hca;have ab:ba≠aa:=j9 (f8 f6 cb) haa;have ac:ca≠aa:=j9 f6 haa;have db:ba≠da:=j9 (f8 (f8 f6 cb) ab) hda;have dc:ca≠da:=j9 (f8 f6 ac) hda;have dA:aa≠da:=j9 f6 hda;have kb:ka≠ba:=j9 hka ba0;have kc:ka≠ca:=j9 hka ca0;have kA:ka≠aa:=j9 hka aa0;have kD:ka≠da:=j9 hka da0;have I4:KpI f (ka::shL sh dn sa pa wa) st (c9 (c9 (c9 (c9 st ba (.lst [.ref a])) ca (.lst [])) aa (.lst [.ref ca])) da (.dtt [])):=((((KpI.refl.new hba).new hca).new haa).new hda);have K4:Kp [] st (c9 (c9 (c9 (c9 st ba (.lst [.ref a])) ca (.lst [])) aa (.lst [.ref ca])) da (.dtt [])):=((((Kp.refl.new hba).new hca).new haa).new hda);have nd4:Nd st0 (da::aa::ca::ba::X) (c9 (c9 (c9 (c9 st ba (.lst [.ref a])) ca (.lst [])) aa (.lst [.ref ca])) da (.dtt [])) 0 p a f:=(((nd.addX ba0).addX ca0).addX aa0 |>.addX da0).kpi I4 (λy hy=>by simp[hX y hy]);have H4:FS sh dn sa pa wa ka ba aa da S ws kn ([]++[.ref a]) ([]++[.ref ca]) (c9 (c9 (c9 (c9 st ba (.lst [.ref a])) ca (.lst [])) aa (.lst [.ref ca])) da (.dtt [])):=⟨K.keep K4,K4.at' hka ∎,f8 (f8 (f8 f6 cb) ab) db,f8 f6 dA,f6⟩;have hc4:(c9 (c9 (c9 (c9 st ba (.lst [.ref a])) ca (.lst [])) aa (.lst [.ref ca])) da (.dtt [])) ca=AA (.lst []):=f8 (f8 f6 ac) dc;have dj:(ka::ba::aa::da::shL sh dn sa pa wa).Nodup:=by
  refine BU.mpr ⟨?_,BU.mpr ⟨?_,BU.mpr ⟨?_,BU.mpr ⟨K.fresh da0,K.D0.all⟩⟩⟩⟩
  ·simp only[AK,not_or];simp only[AK,not_or]at hks;exact⟨kb,kA,kD,hks⟩
  ·have:=K.fresh ba0;simp only[AK,not_or]at this ⊢;exact⟨ab,db,this⟩
  ·have:=K.fresh aa0;simp only[AK,not_or]at this ⊢;exact⟨dA,this⟩
 have hcl:ca∉ka::ba::aa::da::shL sh dn sa pa wa:=by
  have:=K.fresh ca0;simp only[AK,not_or]at this ⊢;exact⟨BE kc,BE cb,ac,dc,this⟩
 have hpk:=Pg.parts_kids p;∎;refine⟨1+2*(p.parts-1),?_⟩;revert I4 K4 nd4 H4 hc4;generalize c9 (c9 (c9 (c9 st ba (.lst [.ref a])) ca (.lst [])) aa (.lst [.ref ca])) da (.dtt [])=st4;intro I4 K4 nd4 H4 hc4;show B8 (wpT (Zg P G (n+1)) (.bl AC)) (l5 (Zg P G (n+1)) J8) _ _ _ _;have hX4:∀y∈ca::da::fL sh dn sa pa wa ka ba aa,y∈da::aa::ca::ba::X:=by
  intro y hy
  rcases AK.mp hy with rfl|hy
  ·simp
  rcases AK.mp hy with rfl|hy
  ·simp
  rcases AK.mp hy with rfl|hy
  ·simp[hX y ∎]
  rcases AK.mp hy with rfl|hy
  ·simp
  rcases AK.mp hy with rfl|hy
  ·simp
  ·simp[hX y (As _ hy)]
 refine b19 (R:=f) T hnm N hmd M dj p.parts p (Ab _) h7 hk ∅ nd4 (λy hy=>hy) hX4 H4 hc4 hkn hS (by simp;lia) (by simp;lia) ⋯ hcl λS1 ws1 st1 ks y7 y8 y9 y10 H1 hc1 kl hh1 hkk p1 l1 w1 K1=>?_;refine wl ?_;have nd1:=nd4.kpi K1 (λy hy=>hX4 y (by simp only[AK]at hy ⊢;rcases hy with h|h;exact .inl h;exact .inr (.inr h)));have har:a∈f:=by obtain⟨_,_,_,_,_,_,h,_⟩:=nd4.root;exact h
 cases nd1 with
 |@mk _ _ _ lb xb wb kdb asb fsb b1 b2 b3 b4 b5 b6 b7 b8 b9=>
 refine bb7 (R:=a::fsb.flatten) T hmd M dj H1 hc1 hh1 b1 b2 ∅ b3 ⋯ (Pg.told_kn h7) hkk (hkn.up H1.K.A.wf p1 w1) ⋯ (by simp only[AK,not_or]at hcl ⊢;exact hcl.2.2.2.2) har λS2 ws2 st2 t7 t8 H2 g1 p2 l2 w2 K2=>?_;refine b50 T H2 (f7 (q S2 ws2 st2 g1 H2.K ?_));refine KpI.drop (p:=ba) (KpI.drop (p:=aa) (KpI.drop (p:=ca) ?_ ca0) aa0) ba0;refine((I4.more λy hy=>?_).trans (K1.more λy hy=>?_)).trans (K2.more λy hy=>?_)
 ·simp only[AK]at hy ⊢;exact .inr (.inr (.inr hy))
 ·simp only[AK]at hy ⊢
  rcases hy with h|h|h|h|h
  ·exact .inl h
  ·exact .inr (.inr (.inr (.inl h)))
  ·exact .inr (.inr (.inl h))
  ·exact .inr (.inl h)
  ·exact .inr (.inr (.inr (.inr h)))
 ·simp only[AK]at hy ⊢
  rcases hy with h|h|h|h
  ·exact .inr (.inr (.inr (.inl h)))
  ·exact .inr (.inr (.inl h))
  ·exact .inr (.inl h)
  ·exact .inr (.inr (.inr (.inr h)))
end
def Nd.fresh{st0}{a}(n:Nd st0 X st h p a f):∀b∈f,st0 b=AD:=by
 induction n with
 |@mk h p a la x w kd as fs h1 h2 h3 h4 h5 h6 h7 h8 hk ih=>
  intro b hb
  rcases AK.mp hb with rfl|hb
  ·exact h6
  ·obtain⟨f,hf,hb⟩:=Cb.mp hb;obtain⟨i,hi,rfl⟩:=FH.mp hf;exact ih i p.kids[i] as[i] fs[i] (AM ⋯) (AM ⋯) (AM hi) b hb
section
variable (T:PNo P G) {S:List It3} 
include T
def bx1(hn:19<=n){k:Kd}{st0:Sto}{kn:List Int}{a:AH}(hk:p.kind Γ=AA k)(h7:p.kn 3)(nd:Nd st0 X st 0 p a f)(K:KA sh dn sa pa wa S ws st)(hka:st ka=AA (.lst (kn.map D.int)))(hkn:KnOk S ws Γ kn)(hS:S.length+256*p.parts<=900000)(hkl:kn.length<=50000)(hks:ka∉shL sh dn sa pa wa)(hX:∀y∈ka::shL sh dn sa pa wa,y∈X)
  (q:∀S' ws' st',Has S' k.d->KA sh dn sa pa wa S' ws' st'->KpI f (ka::shL sh dn sa pa wa) st st'->Q (.int (nb S' k.d:Nat)) st'):sem P G n "kind_of_node" [.ref a,.ref ka,.ref sh] st Q:=by
 obtain⟨n,rfl⟩:∃m,n=m+3:=⟨n-3,⋯⟩;have hc:∀f∈([("program":Str),("inside":Str),("number":Str),("holders":Str),("ways":Str),("used":Str),("kind":Str)]:List Str),f∈G.cls "Node":=λf hf=>by rw[T.ncl];exact hf
 refine i5 T.kon rfl [AA (.ref a),AA (.ref ka),AA (.ref sh),AD,AD,AD,AD] rfl ?_;(iterate 3 ∎);refine⟨by rw[T.fol];rfl,bw7 T (show Cok P (.clo _ _ _ _) from trivial) ?_ (show Cok P (.clo _ _ _ _) from trivial) ?_ T.kt hk h7 nd K hka hkn hS hkl hks hX λS' ws' st' h1 h2 h3=>f7 (q S' ws' st' h1 h2 h3)⟩
 ·intro st S ws ca p i a ks Q K ht hm hk hc hh hS q;refine ab5 rfl [AA p.d,AA (.ref ca),AA (.int i),AA (.ref sh)] rfl ?_;∎;exact⟨by rw[T.nnm];rfl,bt4 T.toPKo ⋯ K ht hm hk hc hh hS λS' ws' st' h1 h2 h3 h4 h5 h6=>f7 (q S' ws' st' h1 h2 h3 h4 h5 h6)⟩
 ·intro st S ws ca ka b la p Γ k ks kn x h w kd Q K ht hk hca hh hka hkn hcl hS hb hkd q;refine ab5 rfl [AA (.ref b),AA (.ref ca),AA (.ref ka),AA (.ref sh),AD] rfl ?_;∎;refine⟨by rw[T.kbp];rfl,b,"Node",_,p.d,rfl,hb,hc _ ∎,rfl,?_⟩;refine cw9 T.toPKo ⋯ K ht hk hca hh hka hkn hcl hS λS' ws' st' h1 h2 h3 h4 h5 h6=>?_;have hb':=h6.at' hb (K.noNode hb);have fin:∀kd',F5 kd'->Q (.int (nb S' k.d:Nat)) (c9 st' b (ndO p la x h w kd')):=λkd' hk'=>q S' ws' _ kd' h1 h2 h3 (h4.keepL (Kp.refl.put (L:=[b]) ∎) (by intro y hy;simp only[Am]at hy;subst hy;exact K.noNode hb)) h5 ((h6.more (by intro y hy;exact As _ hy)).put ∎) f6 hk';∎;refine⟨b,"Node",_,kd,rfl,hb',hc _ ∎,rfl,?_⟩;have tail:∀kd',F5 kd'->∃p c fs,D.ref b=D.ref p/\st' p=AA (.ins c fs)/\("kind":Str)∈G.cls c/\fs.length<1000/\l5 (Zg P G n) (.cons (.ret (.v 4)) .nil) (o5 Q) [AA (.ref b),AA (.ref ca),AA (.ref ka),AA (.ref sh),AA (.int (nb S' k.d:Nat))] (c9 st' p (.ins c (l9 "kind" kd' fs))):=λkd' hk'=>⟨b,"Node",_,rfl,hb',hc _ ∎,by simp[ndF],by
   rw[b78];∎;exact f7 (fin kd' hk')⟩
  rcases hkd with rfl|⟨j,rfl⟩
  ·exact .inl ⟨rfl,tail _ (.inr ⟨_,rfl⟩)⟩
  ·refine .inr ⟨nofun,b,"Node",_,.int j,rfl,hb',hc _ ∎,rfl,?_⟩;rfl'
   split
   ·exact tail _ (.inr ⟨_,rfl⟩)
   ·exact tail _ (.inr ⟨_,rfl⟩)
def b03(hn:20<=n){k:Kd}{kn:List Int}(hp:p.parts<=2000)(hk:p.kind Γ=AA k)(h7:p.kn 3)(K:KA sh dn sa pa wa S ws st)(hka:st ka=AA (.lst (kn.map D.int)))(hkn:KnOk S ws Γ kn)(hS:S.length+256*p.parts<=900000)(hkl:kn.length<=50000)(hks:ka∉shL sh dn sa pa wa)
  (q:∀S' ws' st',Has S' k.d->KA sh dn sa pa wa S' ws' st'->Kp (ka::shL sh dn sa pa wa) st st'->Q (.int (nb S' k.d:Nat)) st'):sem P G n "shelved_kind" [p.d,.ref ka,.ref sh] st Q:=by
 obtain⟨n,rfl⟩:∃m,n=m+1:=⟨n-1,⋯⟩;refine i5 T.shk rfl [AA p.d,AA (.ref ka),AA (.ref sh)] rfl ?_;∎;refine⟨by rw[T.kon];rfl,by rw[T.nod];rfl,?_⟩;intro na hna;have K0:Kp [] st (c9 st na (.lst [])):=Kp.refl.new hna;have KA0:=K.keep K0;have hx:∀x∈ka::shL sh dn sa pa wa,∃o,c9 st na (.lst []) x=AA o:=by
  intro x hx;simp only[AK,Aa,or_false]at hx
  rcases hx with rfl|rfl|rfl|rfl|rfl|rfl
  ·exact⟨_,i7 hka hna⟩
  ·exact⟨_,KA0.A.ins⟩
  ·exact⟨_,KA0.A.num⟩
  ·exact⟨_,KA0.A.sto⟩
  ·exact⟨_,KA0.A.par⟩
  ·exact⟨_,KA0.W⟩
 refine b36 T (X:=ka::shL sh dn sa pa wa) ⋯ hp f6 hx λa f st' nd K1=>?_;have hnk:ka≠na:=j9 hka hna;refine bx1 T ⋯ hk h7 nd (KA0.keepL K1 (by intro y hy;simp only[Am]at hy;subst hy;exact K.fresh hna)) (K1.at' (i7 hka hna) (by simpa using hnk)) hkn hS hkl hks (λy hy=>hy) λS' ws' st2 h1 h2 h3=>f7 (q S' ws' st2 h1 h2 λb o nb e=>?_);have e1:=i7 (u:=.lst []) e hna;exact h3.k b o nb (λz=>by rw[nd.fresh b z]at e1;cases e1) (K1.at' e1 (by simpa using j9 e hna))
end
def En.app{S}{l}{e}{k}(h:En S ws e k):En S (ws++l) e k:=by
 rcases h with h|⟨j,b,e,h⟩
 ·exact .inl h
 ·exact .inr ⟨j,b,e,Ag (AX.mp h).1▸h⟩
theorem KnOk.app{S}{l}{kn}(h:KnOk S ws Γ kn):KnOk S (ws++l) Γ kn:=
 ⟨h.len,λm k hk=>let⟨e,h1,h2⟩:=h.at' m k hk;⟨e,h1,h2.app⟩⟩
section
variable (T:PNo P G) {S:List It3}
include T
def bu9(hΓ:∀k∈Γ,k.nest<=3)(hl:Γ.length<2000)(K:KA sh dn sa pa wa S [] st)
  (q:∀ws' kn ka st',KA sh dn sa pa wa S ws' st'->st ka=AD->st' ka=AA (.lst (kn.map D.int))->KnOk S ws' Γ kn->kn.length=Γ.length->Kp [wa] st st'->Q (.ref ka) st'):sem P G (n+2) "shelved_names" [.tup (Γ.map Kd.d),.ref sh] st Q:=by
 refine i5 T.shn rfl [AA (.tup (Γ.map Kd.d)),AA (.ref sh)] rfl ?_;∎;refine⟨by simp;lia,?_⟩;refine F9 (λl acc env' st'=>∃(pre suf:List Kd)(x:Option D)(kn:List Int),Γ.reverse=pre++suf/\l=suf.map Kd.d/\acc=kn.map D.int/\env'=[AA (.ref sh),x]/\KA sh dn sa pa wa S (pre.map λk=>(k,AF)) st'/\KnOk S (pre.map λk=>(k,AF)) pre.reverse kn/\Kp [wa] st st') ?_ ?_ _ _ _ _ ⟨[],Γ.reverse,AD,[],rfl,by rw[Hg],rfl,rfl,K,⟨rfl,λm k hk=>(by simp at hk)⟩,Kp.refl⟩
 ·rintro acc env' st' ⟨pre,suf,x,kn,e1,e2,rfl,rfl,K1,k1,K2⟩;have es:suf=[]:=by simpa using e2.symm
  subst es;rw[Ao]at e1;refine⟨trivial,λka hka=>?_⟩;have eg:pre.reverse=Γ:=by rw[<-e1,IM]
  rw[eg]at k1;have hka0:st ka=AD:=by
   cases e:st ka with
   |none=>rfl
   |some o=>
    by_cases z:ka=wa
    ·have:=K1.W;rw[<-z,hka]at this;cases this
    ·rw[K2.at' e (by simpa using z)]at hka;cases hka
  exact f7 (q _ kn ka _ (K1.keep (Kp.refl.new hka)) hka0 f6 k1 k1.len (K2.new hka))
 ·rintro d ds acc env' st' ih ⟨pre,suf,x,kn,e1,e2,rfl,rfl,K1,k1,K2⟩;refine⟨trivial,?_⟩;cases suf with
  |nil=>simp at e2
  |cons k suf=>
   simp only[AZ,AY]at e2;obtain⟨rfl,rfl⟩:=e2;have hkm:k∈Γ:=by
    have:k∈Γ.reverse:=by rw[e1];simp
    simpa using this
   have hpl:pre.length<2000:=by
    have:=congrArg CB e1;simp at this;lia
   refine⟨.ref sh,rfl,sh,"Shelf",_,rfl,K1.A.ins,rfl,by rw[T.ptb];rfl,k.d,rfl,?_⟩;refine b13 T.toPKd K1 (hΓ k hkm) (by simpa using hpl) λst2 K3 K4=>?_;refine ih _ _ _ ⟨pre++[k],suf,_,kn++[-(((pre.map λk=>(k,AF)).length:Int)+1)],by rw[e1];simp,rfl,∎,rfl,by simpa using K3,?_,K2.trans K4⟩;rw[GB,Ae];exact(k1.app).cons (.inr ⟨pre.length,AF,∎,∎⟩)
def bw8(hn:24<=n){k:Kd}(hp:p.parts<=2000)(hΓ:∀k∈Γ,k.nest<=3)(hl:Γ.length<2000)(hk:p.kind Γ=AA k)(h7:p.kn 3)(q:∀st',Kp [] st st'->Q k.d st'):sem P G n "kind_of" [p.d,.tup (Γ.map Kd.d)] st Q:=by
 obtain⟨n,rfl⟩:∃m,n=m+3:=⟨n-3,⋯⟩;refine i5 T.ko rfl [AA p.d,AA (.tup (Γ.map Kd.d)),AD] rfl ?_;unfold aq2;∎;refine⟨by show(AC&&_)=AC;rw[T.init];rfl,λsh hsh=>?_⟩;refine bm5 (n:=n+1) ?_;refine by9 T.toPSh hsh λdn sa pa wa s1 A1 hd hfr hw1 hw2 hw3 K1=>⟨rfl,?_⟩;have KA1:KA sh dn sa pa wa [] [] s1:=⟨A1,⟨hd,hw1,hw2⟩,hw3,∎,∎,∎⟩;∎;refine⟨sh,"Shelf",_,rfl,A1.ins,rfl,by rw[T.tup];rfl,by rw[T.shk];rfl,by rw[T.shn];rfl,?_⟩;refine bu9 T (n:=n) hΓ hl KA1 λws2 kn ka s2 KA2 hka0 hka hkn hkl K2=>?_;have hks:=KA1.fresh hka0;refine b03 T ⋯ ⋯ hk h7 KA2 hka hkn (by simp;lia) ⋯ hks λS3 ws3 s3 h3 KA3 K3=>?_;refine b52 T.toPSh KA3.A h3 (f7 (q s3 λb o _ e=>?_));have e1:=K1.at' e ∎;have nf:b∉shL sh dn sa pa wa:=λz=>by rw[hfr b z]at e;cases e
 have e2:=K2.at' e1 (by simp only[Am];exact λz=>nf (by simp[z]));exact K3.at' e2 (by simp only[AK,not_or];exact⟨j9 e1 hka0,by simpa using nf⟩)
end
abbrev tabs(ds:List D):Nat->List (List D)
 |0=>[[]]
 |n+1=>(tabs ds n).flatMap λt=>ds.map λd=>t++[d]
theorem ar7(ds:List D):∀n,(tabs ds n).length=ds.length^n
 |0=>rfl
 |n+1=>by
  show((tabs ds n).flatMap _).length=_;rw[J3 _ ds.length (λx=>∎),ar7 ds n,Fx]
theorem ar4:∀{n}{t},t∈tabs ds n->t.length=n/\∀d∈t,d∈ds
 |0,t,h=>by simp only[tabs,Am]at h;subst h;exact⟨rfl,∎⟩
 |n+1,t,h=>by
  simp only[tabs,Be,Aq]at h;obtain⟨u,hu,d,hd,rfl⟩:=h;obtain⟨h1,h2⟩:=ar4 hu;refine⟨by simp[h1],λe he=>?_⟩
  rcases Ap.mp he with he|he
  ·simp_all
  ·simp_all
theorem a08(h:ds.Nodup):∀n,(tabs ds n).Nodup
 |0=>by simp[tabs]
 |n+1=>by
  have ih:=a08 h n;have go:∀L:List (List D),L.Nodup->(L.flatMap λt=>ds.map λd=>t++[d]).Nodup:=λL=>by
   induction L with
   |nil=>simp
   |cons t L il=>
    intro hL;rw[BU]at hL;rw[CN,Cr];refine⟨?_,il hL.2,λa ha b hb=>?_⟩
    ·exact Dv _ (λx y hxy z=>hxy (by have:=List.append_inj_right' z rfl;simpa using this)) h
    ·intro e;subst e;obtain⟨d,_,rfl⟩:=Aq.mp ha;obtain⟨u,hu,hb⟩:=Be.mp hb;obtain⟨e,_,he⟩:=Aq.mp hb;have:u=t:=List.append_inj_left' he rfl;subst this;exact hL.1 hu
  exact go _ ih
abbrev TW(st:Sto)(fa:AH)(W:List (AH×List D)):Prop:=st fa=AA (.lst (W.map λw=>D.ref w.1))/\∀w∈W,st w.1=AA (.lst w.2)
def bg5{W:List (AH×List D)}:O1 (W.map λw=>D.ref w.1) ds=(W.flatMap λw=>ds.map λd=>(w,d)).map λz=>.tup [.ref z.1.1,z.2]:=by
 unfold O1
 induction W with
 |nil=>rfl
 |cons w W ih=>simp_all
section
variable (T:PK62 P G) (ht:P "_law_tables"=AA ae6)
include T ht
def by7{n:Nat}{ds:List D}(hn:4<=n)(hm:m<=3)(hd:ds.length<=3)(hs:st sa=AA (.lst ds))(q:∀fa W st',TW st' fa W->W.map (·.2)=tabs ds m->(st fa=AD/\∀w∈W,st w.1=AD)->Kp [] st st'->Q (.ref fa) st'):sem P G n "_law_tables" [.ref sa,.int m] st Q:=by
 obtain⟨n,rfl⟩:∃m,n=m+2:=⟨n-2,⋯⟩;refine i5 ht rfl [AA (.ref sa),AA (.int m),AD,AD] rfl ?_;intro ea he;intro fa hfa;∎;refine⟨⋯,?_⟩;have T0:TW (c9 (c9 st ea (.lst [])) fa (.lst [.ref ea])) fa [(ea,[])]:=⟨f6,λw hw=>by
  rw[Am]at hw;subst hw;exact i7 f6 hfa⟩
 have K0:Kp [] st (c9 (c9 st ea (.lst [])) fa (.lst [.ref ea])):=(Kp.refl.new he).new hfa;refine A0 (λl env s=>∃(fa:AH)(W:List (AH×List D))(x:Option D)(j:Nat),env=[AA (.ref sa),AA (.int m),AA (.ref fa),x]/\TW s fa W/\W.map (·.2)=tabs ds j/\j+l.length=m/\(st fa=AD/\∀w∈W,st w.1=AD)/\Kp [] st s) ?_ ?_ _ _ _ ⟨fa,[(ea,[])],AD,0,rfl,T0,rfl,by simp[z7],⟨none_of (Kp.refl.new he) hfa,λw hw=>by rw[Am]at hw;subst hw;exact he⟩,K0⟩
 ·rintro env s ⟨fa,W,x,j,rfl,hT,eW,ej,hN,K⟩;∎;have:j=m:=by simpa using ej
  subst this;exact f7 (q fa W s hT eW hN K)
 ·rintro d l env s ih ⟨fa,W,x,j,rfl,hT,eW,ej,hN,K⟩;refine⟨trivial,?_⟩;simp only[AW]at ej;have lW:W.length<=9:=by
   have:=congrArg CB eW;rw[AT,ar7]at this;rw[this];have h1:ds.length^j<=3^j:=Fc hd j;have h2:3^j<=3^2:=BX ∅ ⋯;lia
  rfl';∎;have hmul:W.length*ds.length<=9*3:=Cs lW hd;refine⟨by rw[T.crossed];rfl,af7 T.toPKs hT.1 (K.at' hs ∎) (by rw[AT];lia) ⋯ λca s1 hca0 hca K1=>?_⟩;refine .inr ⟨_,_,rfl,.inl hca,?_⟩;rw[bg5];have hz:(W.flatMap λw=>ds.map λd=>(w,d)).length<=27:=by rw[J3 _ ds.length (λx=>∎)];lia
  have hZ:∀z∈(W.flatMap λw=>ds.map λd=>(w,d)),s1 z.1.1=AA (.lst z.1.2)/\z.1∈W:=λz hz=>by
   obtain⟨w,hw,hz⟩:=Be.mp hz;obtain⟨e,_,rfl⟩:=Aq.mp hz;exact⟨K1.at' (hT.2 w hw) ∎,hw⟩
  have hWl:∀w∈W,w.2.length=j:=λw hw=>(ar4 (n:=j) (ds:=ds) (by rw[<-eW];exact FY hw)).1;have eZ:(W.flatMap λw=>ds.map λd=>(w,d)).map (λz=>z.1.2++[z.2])=tabs ds (j+1):=by
   simp only[tabs];rw[<-eW];clear hZ hz hT eW lW hmul hWl hca hN
   induction W with
   |nil=>rfl
   |cons w W iw=>rw[CN,Ae,iw,BN,AZ,CN];rfl
  rw[bg5]at hca;revert hz hZ eZ hca;generalize(W.flatMap λw=>ds.map λd=>(w,d))=Z;intro hca hz hZ eZ;refine⟨by rw[AT];lia,?_⟩;refine F9 (λl acc env' s'=>∃(pre suf:List ((AH×List D)×D))(V:List (AH×List D))(x y:Option D),Z=pre++suf/\l=suf.map (λz=>.tup [.ref z.1.1,z.2])/\acc=V.map (λw=>D.ref w.1)/\V.map (·.2)=pre.map (λz=>z.1.2++[z.2])/\(∀w∈V,s' w.1=AA (.lst w.2)/\st w.1=AD)/\env'=[x,y]/\Kp [] s1 s') ?_ ?_ _ _ _ _ ⟨[],Z,[],AD,AD,rfl,rfl,rfl,rfl,∎,rfl,Kp.refl⟩
  ·rintro acc env' s' ⟨pre,suf,V,x,y,e1,e2,rfl,e4,hV,rfl,K2⟩;refine⟨.inl (K2.at' hca ∎),λp hp=>?_⟩;have es:suf=[]:=by simpa using e2.symm
   subst es;rw[Ao]at e1;subst e1;refine ih _ _ ⟨p,V,_,j+1,rfl,⟨f6,λw hw=>i7 (hV w hw).1 hp⟩,by rw[e4];exact eZ,⋯,⟨none_of (K.trans (K1.trans K2)) hp,λw hw=>(hV w hw).2⟩,(K.trans (K1.trans K2)).new hp⟩
  ·rintro d l acc env' s' ih2 ⟨pre,suf,V,x,y,e1,e2,rfl,e4,hV,rfl,K2⟩;refine⟨.inl (K2.at' hca ∎),?_⟩;cases suf with
   |nil=>simp at e2
   |cons z suf=>
    simp only[AZ,AY]at e2;obtain⟨rfl,rfl⟩:=e2;obtain⟨z1,z2⟩:=hZ z (by rw[e1];simp);rfl';intro pa hpa;have h1:c9 s' pa (.lst [z.2]) z.1.1=AA (.lst z.1.2):=i7 (K2.at' z1 ∎) hpa;have hl:=hWl z.1 z2;refine⟨_,_,h1,f6,p9 (by simp only[EA];lia),λpb hpb=>?_⟩;refine ih2 _ _ _ ⟨pre++[z],suf,V++[(pb,z.1.2++[z.2])],_,_,by rw[e1];simp,rfl,∎,by simp[e4],λw hw=>?_,rfl,(K2.new hpa).new hpb⟩
    rcases Ap.mp hw with hw|hw
    ·exact⟨i7 (i7 (hV w hw).1 hpa) hpb,(hV w hw).2⟩
    ·rw[Am]at hw;subst hw;exact⟨f6,none_of ((K.trans (K1.trans K2)).new hpa) hpb⟩
end
theorem bh9:∀{Γ}{q},q∈nA Γ->Γ[Γ.length-1-q.lv]?=AA q.k
 |[],q,h=>by simp[nA]at h
 |k::r,q,h=>by
  simp only[nA,AK]at h
  rcases h with rfl|h
  ·simp
  ·have:=bh9 h;have hl:=(W6 h).2.2;rwa[AW,show r.length+1-1-q.lv=r.length-1-q.lv+1 by lia]
def cg0(hΓ:∀k∈Γ,Lv 2 k/\k.bd 3)(h:q∈nA Γ):N0 2 Γ q:=by
 obtain⟨h1,h2,h3⟩:=W6 h;refine⟨h3,q.k,0,2,bh9 h,h2▸.nil,(hΓ _ h1).1,(hΓ _ h1).2,Ab _,∎⟩
def dc0(hl:Γ.length<=3)(hΓ:∀k∈Γ,Lv 2 k/\k.bd 3)(hb:∀i,lns (Γ.take i)<=3):Nk Γ<=24:=by
 have hv:∀k∈Γ,k.vn<=3:=λk hk=>dc4 (hΓ k hk).1 (hΓ k hk).2
 match Γ,hl with
 |[],_=>decide
 |[a],_=>
  have v1:=hv a ∎;have c1:=hb 1;simp only[FZ,Kq,lns,FP]at c1;simp only[Nk,FP];lia
 |[a,b],_=>
  have v1:=hv a ∎;have v2:=hv b ∎;have c1:=hb 1;have c2:=hb 2;simp only[FZ,Kq,lns,FP]at c1 c2;simp only[Nk,FP,Hw];have:a.cnt*b.vn<=3*3:=Cs c1 v2;lia
 |[a,b,c],_=>
  have v1:=hv a ∎;have v2:=hv b ∎;have v3:=hv c ∎;have c1:=hb 1;have c2:=hb 2;have c3:=hb 3;simp only[FZ,Kq,lns,FP]at c1 c2 c3;simp only[Nk,FP,Hw];have e1:a.cnt*b.vn<=3*3:=Cs c1 v2;have e2:a.cnt*(b.cnt*c.vn)<=3*3:=by rw[<-GH];exact Cs c2 v3
  lia
def b61{k:Kd}(lk:Lv 2 k)(bk:k.bd 3)(hl:Γ.length<=3)(hΓ:∀k∈Γ,Lv 2 k/\k.bd 3)(hb:∀i,lns (Γ.take i)<=3)(ht:ts.length<=3)(hp:Pls k ts ps)(t:Tr k Γ.length (nA Γ) ps x []):∃y:Pg,x=y.d/\y.kind Γ=AA k/\y.kn 3/\y.parts<=2000:=by
 have nk:=lk.nest;obtain⟨y,cs,r1,r2,r3,r4,r5,r6⟩:=bf8 (d:=2) (X:=17) (BG:=59) ∅ (λe he c lc bc=>bd5 e ⋯ c lc bc) ⋯ _ (Ab _) (λq hq=>cg0 hΓ hq) (Pls.each (bd5 2 ⋯ k lk bk) hp) t;rw[Ao]at r5;have h1:=hp.len;rw[ai7]at r4;have h2:=dc0 hl hΓ hb;exact⟨y,r1,r2,r3,by rw[r5]at h1;lia⟩
section
variable (T:PK62 P G) (J:PNo P G) (ht:P "_law_tables"=AA ae6)
include T J ht
def cz8(hn:200<=n+2){a:AH}(k:Kd)(st3:Sto)(lk:Lv 2 k)(bk:k.bd 3)(hk:0<k.cnt)(I3:D8 st3 da):l5 (Zg P G (n+1)) (V5.body.drop 3) (o5 λd _=>d=.bl AC) [AA (.ref a),AA (.ref da),AA k.d,AD,AD,AD,AD,AD] st3:=by
 have nk:=lk.nest;have ck:=Kd.bd_le bk;have tl:=o7 k;simp only[V5,Ss.drop];∎;refine⟨by rw[T.names];rfl,bz2 T.toPKs (most:=3) ∅ ∅ ⋯ I3 λΓ st4 hΓl hΓ hb I4 K4=>?_⟩;have hΓ12:∀c∈Γ,Lv 2 c/\c.bd 12:=λc hc=>⟨(hΓ c hc).1,Kd.bd_mono ∅ (hΓ c hc).2⟩;have hΓ20:∀c∈Γ,Lv 2 c/\c.bd 20:=λc hc=>⟨(hΓ c hc).1,Kd.bd_mono ∅ (hΓ c hc).2⟩;have hb12:∀i,lns (Γ.take i)<=12:=λi=>Bd (hb i) ∅;have lG:lns Γ<=3:=by have:=hb Γ.length;rwa [Eo]at this
 have ll:=R7 Γ;have hR:rks (nA Γ)<=87:=by
  have:=au6 (b:=29) (Γ:=Γ) λc hc=>lv2 (hΓ c hc).1;have:Γ.length*29<=3*29:=CQ _ hΓl;lia
 have b20:k.bd 20:=Kd.bd_mono ∅ bk;∎;refine⟨by rw[T.lrows];rfl,bb8 T.toPKs ⋯ hΓl hΓ12 hb12 λra st5 hra0 hra K5=>?_⟩;∎;intro pa hpa;have hra6:=i7 (u:=.lst []) hra hpa;have hpa6:c9 st5 pa (.lst []) pa=AA (.lst []):=f6;revert hra6 hpa6;generalize c9 st5 pa (.lst [])=st6;intro hra6 hpa6;∎;refine⟨by rw[ht];rfl,by rw[T.lthings];rfl,ag6 T.toPKs k ⋯ (Kd.bd_mono ∅ bk) λsa st7 hsa0 hsa K7=>?_⟩;rfl';rw[z0 (.inl (K7.at' hra6 ∎)),AT,ll];refine by7 T ht (m:=lns Γ) ⋯ lG ⋯ hsa λfa W st8 hW eW hN K8=>?_;have hpa8:=K8.at' (K7.at' hpa6 ∎) ∎;have np:∀{b:AH},st7 b=AD->b≠pa:=λe z=>by
  rw[z,K7.at' hpa6 ∎]at e;cases e
 have hlW:W.length<=27:=by
  have:=congrArg CB eW;rw[AT,ar7]at this;rw[this,tl];have h1:k.cnt^lns Γ<=3^lns Γ:=Fc ck _;have h2:3^lns Γ<=3^3:=BX ∅ lG;lia
 have hnd:(W.map (·.2)).Nodup:=by rw[eW];exact a08 (R6 k) _
 have hmem:∀w∈W,w.2.length=lns Γ/\∀t∈w.2,t∈k.things:=λw hw=>ar4 (by rw[<-eW];exact FY hw);refine .inr ⟨_,_,rfl,.inl hW.1,?_⟩;refine A0 (λl env s=>∃(pre suf:List (AH×List D))(ys:List D)(x6 x7:Option D),W=pre++suf/\l=suf.map (λw=>D.ref w.1)/\env=[AA (.ref a),AA (.ref da),AA k.d,AA (.tup (Γ.map Kd.d)),AA (.ref ra),AA (.ref pa),x6,x7]/\TW s fa W/\s pa=AA (.lst ys)/\ys.length=pre.length/\∀y∈ys,r9 137 y/\∃w∈pre,∃ps,Pls k w.2 ps/\Tr k Γ.length (nA Γ) ps y []) ?_ ?_ _ _ _ ⟨[],W,[],AD,AD,rfl,rfl,rfl,hW,hpa8,rfl,∎⟩
 ·rintro env s ⟨pre,suf,ys,x6,x7,e1,e2,rfl,hT,hp,hl,hy⟩;refine⟨.inl hT.1,?_⟩;∎;exact f7 rfl
 ·rintro d l env s ih ⟨pre,suf,ys,x6,x7,e1,e2,rfl,hT,hp,hl,hy⟩;refine⟨.inl hT.1,?_⟩;cases suf with
  |nil=>simp at e2
  |cons w suf=>
   simp only[AZ,AY]at e2;obtain⟨rfl,rfl⟩:=e2;have hw:w∈W:=by rw[e1];simp
   obtain⟨wl,wm⟩:=hmem w hw;obtain⟨ps,x,p1,tr1,nx,sx⟩:=ct2 T lk.mono b20 hΓl hΓ12 wl wm;obtain⟨y,rfl,y2,y3,y4⟩:=b61 lk bk hΓl hΓ hb ⋯ p1 tr1;have hnew:∀z∈ys,z≠y.d:=λz hz e=>by
    subst e;obtain⟨_,v,hv,qs,p2,tr2⟩:=hy _ hz;obtain⟨c,c1,c2⟩:=bn0 _ (Ab _) tr1 tr2;rw[Ao]at c1 c2;subst c1;subst c2;have:=au1 (c08 _ k (Ab _)) p1 p2;rw[e1,Ae,Cr]at hnd;exact hnd.2.2 v.2 (FY hv) w.2 ∎ this.symm
   rfl';∎;refine⟨by rw[T.pltab];rfl,⟨_,.inl (hT.2 w hw),λc1 hc1=>?_⟩⟩;refine by8 T.toPKs ⋯ lk.mono b20 hΓ20 ⋯ f6 ⋯ wm p1 tr1 λs1 K1=>?_;have K1:Kp [] s s1:=(Kp.refl.new hc1).trans K1;∎;refine⟨by rw[J.ko];rfl,bw8 J ⋯ y4 (λc hc=>by have:=(hΓ c hc).1.nest;lia) ⋯ y2 y3 λs2 K2=>?_⟩;rw[da7,cz0];refine⟨Q0 _,Q0 _,Bd (Gv _ _) (by rw[T4];lia),?_⟩;simp only[decide_true,Dl];rfl';have h184:184<=n:=by lia
   refine⟨by rw[T.table];rfl,b60 T (N:=184) h184 ∅ b20 ⋯ hΓl hΓ12 hb12 wl wm sx λr1 s3 hr10 hr1 K3=>?_⟩;have K13:=(K1.trans K2).trans K3;have l1:D.lits w.2=AC:=P1.mpr λt ht=>(J0 k t (wm t ht)).1;have d1:BZ (D.pys w.2)<=149:=by
    rw[ar5];have:y6 w.2<=9:=ar6 λt ht=>by have:=(J0 k t (wm t ht)).2;lia
    lia
   rfl';refine⟨w.2,w.2,.inl hr1,.inl (K13.at' (hT.2 w hw) ∎),V2 _ l1,V2 _ l1,d1,?_⟩;rw[at7,(ar1 _ _ l1 l1).mpr rfl];rfl';have hp3:=K13.at' hp ∎;have an:(ys.any λz=>deq z y.d)=AF:=by
    rw[FI];intro z hz;rw[ar3 (hy z hz).1.1 nx.1 (hnew z hz)];exact AI
   refine⟨ys,.inl hp3,ag2 _ nx.1,V2 _ (P1.mpr λz hz=>(hy z hz).1.1),by have:=nx.2;lia,?_⟩;rw[an];rfl';∎;have lys:ys.length<27:=by
    have:=congrArg CB e1;simp only[Ac,AW]at this;lia
   refine⟨⟨_,.inl hp3⟩,ys,hp3,Ar lys ∅,?_⟩;refine ih _ _ ⟨pre++[w],suf,ys++[y.d],_,_,by rw[e1];simp,rfl,rfl,?_,f6,by simp[hl],λz hz=>?_⟩
   ·refine⟨f8 (K13.at' hT.1 ∎) (np hN.1),λv hv=>f8 (K13.at' (hT.2 v hv) ∎) (np (hN.2 v hv))⟩
   ·rcases Ap.mp hz with hz|hz
    ·obtain⟨g1,v,hv,r⟩:=hy z hz;exact⟨g1,v,by simp[hv],r⟩
    ·rw[Am]at hz;subst hz;exact⟨nx,w,∎,ps,p1,tr1⟩
def cy9(hlaw:P "law"=AA V5){a:AH}{ns:List Int}(hn:200<=n)(hl:ns.length<=63)(h:rdS st a (ns.map D.int)):sem P G n "law" [.ref a] st λd _=>d=.bl AC:=by
 obtain⟨n,rfl⟩:∃m,n=m+2:=⟨n-2,⋯⟩;refine i5 hlaw rfl [AA (.ref a),AD,AD,AD,AD,AD,AD,AD] rfl ?_;have e:=λda:AH=>cz8 T J ht hn (a:=a) (da:=da);∎;refine⟨by rw[T.deck];rfl,b17 T.toPKs hl h λda st1 I1 _=>?_⟩;∎;refine⟨by rw[T.kind];rfl,ba3 T.toPKs (most:=3) ∅ ∅ 2 ⋯ I1 λk st2 lk bk I2 _=>?_⟩;have nk:=lk.nest;∎;refine⟨by rw[T.many];rfl,ag4 T.toPKs (m:=3) ∅ k ⋯ (Q3 bk) ?_⟩;rfl'
 by_cases hz:k.cnt=0
 ·have hz':((k.cnt:Nat):Int)=0:=by lia
  simp only[hz',if_true];∎;exact e da .one st2 .one (show 1<=3 by decide) ∅ I2
 ·have hz':¬((k.cnt:Nat):Int)=0:=by lia
  simp only[hz',if_false];exact e da k st2 lk bk ⋯ I2
end
def df5:PK62 ab4 A9:=by
 repeat' (first|rfl|(done)|constructor)
def dh8:PNo ab4 A9:=by
 repeat' (first|rfl|(intro z;cases z)|constructor)
def b06(a:AH)(ns:List Int)(h:ns.length<=63):sem ab4 A9 200 "law" [.ref a] (st0 a ns) λd _=>d=.bl AC:=
 cy9 df5 dh8 rfl rfl ∅ h (.inr (by unfold st0;rw[if_pos rfl]))
end Ek
namespace Ek
open PySem L2
abbrev top(i:Nat):Bf:=PySem.Challenge.pw_evenkinds_k63_whole_every_table.main.body.getD i (.Pass ⟨0,0,0,0⟩)
abbrev mth(i k:Nat):Bf:=match top i with|.ClassDef _ _ _ b _ _ _ _ _ _ _=>b.getD k (.Pass ⟨0,0,0,0⟩)|_=>.Pass ⟨0,0,0,0⟩
def bq6:Stat0 (mth 12 2) aa1 ["self","kind","deep"]:=⟨⟨rfl,rfl,rfl,by decide+kernel,rfl,by decide+kernel,by decide+kernel⟩,rfl,rfl⟩
def cv4{pr:Al}{w:Ay}{K:AQ}{h:BI}{mg:Str->Option AG}{ts:List AH}(X:K.In h)(G:h.Ns AO mg){g0:AH}{g1:AH}{g2:AH}{ku0:AG}{C0:AH}{C1:AH}
  (a0:FnA K ts AF "made_of_parts" (top 4))
  (a1:FnA K ts AF "order_of_few" (top 5))
  (a2:FnA K ts AF "taken" (top 7))
  (a3:FnA K ts AF "things" (top 14))
  (a4:FnA K ts AC "built_up" (top 15))
  (a5:FnA K ts AF "things_within" (top 16))
  (a6:FnA K ts AF "joined_things" (top 17))
  (a7:FnA K ts AF "pairs" (top 18))
  (a8:FnA K ts AF "rows_over" (top 19))
  (a9:FnA K ts AF "plain_thing" (top 21))
  (a10:FnA K ts AF "plain_by_parts" (top 22))
  (a11:FnA K ts AF "plain_table" (top 23))
  (a12:FnA K ts AF "asked_names" (top 24))
  (a13:FnA K ts AF "expression" (top 25))
  (a14:FnA K ts AF "opened" (top 26))
  (a15:FnA K ts AF "asks_nothing" (top 27))
  (a16:FnA K ts AF "joined_asking" (top 28))
  (a17:FnA K ts AF "looked_at" (top 29))
  (a18:FnA K ts AF "asking" (top 30))
  (a19:FnA K ts AF "next_asked" (top 31))
  (a20:FnA K ts AF "inner" (top 38))
  (a21:FnA K ts AF "names_more" (top 39))
  (a22:FnA K ts AC "noded" (top 41))
  (a23:FnA K ts AF "folded" (top 44))
  (a24:FnA K ts AF "kind_of" (top 46))
  (a25:FnA K ts AF "shelved_names" (top 47))
  (a26:FnA K ts AF "shelved_kind" (top 48))
  (a27:FnA K ts AC "kind_of_node" (top 49))
  (a28:FnA K ts AF "kind_by_parts" (top 50))
  (a29:FnA K ts AF "new_name" (top 51))
  (a30:FnA K ts AF "halves_of" (top 52))
  (a31:FnA K ts AF "kind_of_name" (top 53))
  (a32:FnA K ts AF "kind_of_star" (top 54))
  (a33:FnA K ts AF "kind_of_pair" (top 55))
  (a34:FnA K ts AF "kind_of_first" (top 56))
  (a35:FnA K ts AF "kind_of_second" (top 57))
  (a36:FnA K ts AF "kind_of_left" (top 58))
  (a37:FnA K ts AF "kind_of_right" (top 59))
  (a38:FnA K ts AF "kind_of_case" (top 60))
  (a39:FnA K ts AF "kind_of_way" (top 61))
  (a40:FnA K ts AF "kind_of_give" (top 62))
  (a41:FnA K ts AF "kind_of_let" (top 63))
  (a42:FnA K ts AF "kind_of_never" (top 64))
  (a43:FnA K ts AF "_law_deck" (top 67))
  (a44:FnA K ts AF "_law_next" (top 68))
  (a45:FnA K ts AF "_law_crossed" (top 69))
  (a46:FnA K ts AF "_law_things" (top 70))
  (a47:FnA K ts AF "_law_many" (top 71))
  (a48:FnA K ts AF "_law_dressed" (top 72))
  (a49:FnA K ts AF "_law_bare" (top 73))
  (a50:FnA K ts AF "_law_told" (top 74))
  (a51:FnA K ts AF "_law_rows" (top 75))
  (a52:FnA K ts AF "_law_table" (top 76))
  (a53:FnA K ts AF "_law_kind" (top 77))
  (a54:FnA K ts AF "_law_names" (top 78))
  (a55:FnA K ts AF "_law_tables" (top 79))
  (a56:FnA K ts AF "law" (top 80))
  (bb:∀b∈ab0,BJ K AO b=AA AD)
  (ga0:BJ K AO "INNER_FROM"=AA (AA (.ref g0))) (gt0:(letI:Tbs:=⟨ts,mFB,(A9.cls "!kt").isEmpty⟩;ac8 K g0 (A9.tab "INNER_FROM"))=AC)
  (ga1:BJ K AO "UNDER_ONE_MORE"=AA (AA (.ref g1))) (gt1:(letI:Tbs:=⟨ts,mFB,(A9.cls "!kt").isEmpty⟩;ac8 K g1 (A9.tab "UNDER_ONE_MORE"))=AC)
  (ga2:BJ K AO "BY_WORD"=AA (AA (.ref g2))) (gt2:(letI:Tbs:=⟨ts,mFB,(A9.cls "!kt").isEmpty⟩;ac8 K g2 (A9.tab "BY_WORD"))=AC)
  (kc0:BJ K AO "FEW"=AA (AA ku0)) (kv0:(letI:Tbs:=⟨ts,mFB,(A9.cls "!kt").isEmpty⟩;R0 K (.int 2000) ku0)=AC)
  (kx0:BJ K AO "!kt"=AA AD)
  (ky0:BJ K AO "!Shelf.laid_kind"=AA AD)
  (ca0:ClA K "Shelf" C0)
  (ca1:ClA K "Node" C1) (cf0_0:Bg K (.ref C0) "numbers"=AA AD) (cf0_1:Bg K (.ref C0) "stored"=AA AD) (cf0_2:Bg K (.ref C0) "parts"=AA AD) (cf0_3:Bg K (.ref C0) "waiting"=AA AD) (cf1_0:Bg K (.ref C1) "program"=AA AD) (cf1_1:Bg K (.ref C1) "inside"=AA AD) (cf1_2:Bg K (.ref C1) "number"=AA AD) (cf1_3:Bg K (.ref C1) "holders"=AA AD) (cf1_4:Bg K (.ref C1) "ways"=AA AD) (cf1_5:Bg K (.ref C1) "used"=AA AD) (cf1_6:Bg K (.ref C1) "kind"=AA AD)
  (m0:MtA K ts AF "Shelf" C0 "__init__" (mth 12 0))
  (m1:MtD K "Shelf" C0 "laid_kind" (mth 12 2) 3)
  (m2:MtA K ts AF "Shelf" C0 "built" (mth 12 3))
  (m3:MtA K ts AF "Shelf" C0 "numbered" (mth 12 4))
  (m4:MtA K ts AF "Shelf" C0 "put_by" (mth 12 5))
  (m5:MtA K ts AF "Shelf" C0 "taken_up" (mth 12 6))
  (m6:MtA K ts AF "Shelf" C0 "tuple_at" (mth 12 7))
  (m7:MtA K ts AF "Shelf" C0 "word_at" (mth 12 8))
  (m8:MtA K ts AF "Shelf" C0 "within" (mth 12 9))
  (m9:MtA K ts AF "Node" C1 "__init__" (mth 40 0)) (nl:W3 K=AC) (nt:JB K=AC) (tso:ax1 K ts=AC) :
  (letI:Tbs:=⟨ts,mFB,(A9.cls "!kt").isEmpty⟩;AllOk pr w K mg ab4 A9)/\W3 K=AC/\JB K=AC/\∀P∈ts,∃c,CY K c P=AC:=by
 letI:Tbs:=⟨ts,mFB,(A9.cls "!kt").isEmpty⟩
 refine⟨⟨λf d hf hi=>?_,λf d hf hi=>?_,λf c Ca hn hf=>?_,λb hb=>W.mg_none_of X G (bb b hb),λg hg=>?_,λg i hg=>?_,λc hc=>?_,rfl⟩,nl,nt,ci2 tso⟩
 ·
  refine(?_:∀f d,(f,d)∈ab7->isM f=AF->DefOk K mg f d) f d (PySem.mem_of_lookup hf) hi;unfold ab7
  iterate 10 refine j6 (λhi=>absurd hi (by decide+kernel)) ?_
  refine j6 (λ_=>a0.ok X G) ?_;refine j6 (λ_=>a1.ok X G) ?_;refine j6 (λ_=>a2.ok X G) ?_;refine j6 (λ_=>a3.ok X G) ?_;refine j6 (λ_=>a4.ok X G) ?_;refine j6 (λ_=>a5.ok X G) ?_;refine j6 (λ_=>a6.ok X G) ?_;refine j6 (λ_=>a7.ok X G) ?_;refine j6 (λ_=>a8.ok X G) ?_;refine j6 (λ_=>a9.ok X G) ?_;refine j6 (λ_=>a10.ok X G) ?_;refine j6 (λ_=>a11.ok X G) ?_;refine j6 (λ_=>a12.ok X G) ?_;refine j6 (λ_=>a13.ok X G) ?_;refine j6 (λ_=>a14.ok X G) ?_;refine j6 (λ_=>a15.ok X G) ?_;refine j6 (λ_=>a16.ok X G) ?_;refine j6 (λ_=>a17.ok X G) ?_;refine j6 (λ_=>a18.ok X G) ?_;refine j6 (λ_=>a19.ok X G) ?_;refine j6 (λ_=>a20.ok X G) ?_;refine j6 (λ_=>a21.ok X G) ?_;refine j6 (λ_=>a22.ok X G) ?_;refine j6 (λ_=>a23.ok X G) ?_;refine j6 (λ_=>a24.ok X G) ?_;refine j6 (λ_=>a25.ok X G) ?_;refine j6 (λ_=>a26.ok X G) ?_;refine j6 (λ_=>a27.ok X G) ?_;refine j6 (λ_=>a28.ok X G) ?_;refine j6 (λ_=>a29.ok X G) ?_;refine j6 (λ_=>a30.ok X G) ?_;refine j6 (λ_=>a31.ok X G) ?_;refine j6 (λ_=>a32.ok X G) ?_;refine j6 (λ_=>a33.ok X G) ?_;refine j6 (λ_=>a34.ok X G) ?_;refine j6 (λ_=>a35.ok X G) ?_;refine j6 (λ_=>a36.ok X G) ?_;refine j6 (λ_=>a37.ok X G) ?_;refine j6 (λ_=>a38.ok X G) ?_;refine j6 (λ_=>a39.ok X G) ?_;refine j6 (λ_=>a40.ok X G) ?_;refine j6 (λ_=>a41.ok X G) ?_;refine j6 (λ_=>a42.ok X G) ?_;refine j6 (λ_=>a43.ok X G) ?_;refine j6 (λ_=>a44.ok X G) ?_;refine j6 (λ_=>a45.ok X G) ?_;refine j6 (λ_=>a46.ok X G) ?_;refine j6 (λ_=>a47.ok X G) ?_;refine j6 (λ_=>a48.ok X G) ?_;refine j6 (λ_=>a49.ok X G) ?_;refine j6 (λ_=>a50.ok X G) ?_;refine j6 (λ_=>a51.ok X G) ?_;refine j6 (λ_=>a52.ok X G) ?_;refine j6 (λ_=>a53.ok X G) ?_;refine j6 (λ_=>a54.ok X G) ?_;refine j6 (λ_=>a55.ok X G) ?_;refine j6 (λ_=>a56.ok X G) ?_;exact bn2
 ·
  refine(?_:∀f d,(f,d)∈ab7->isM f=AC->∃c m,f=f9 c m/\isM c=AF/\isM m=AF/\MthOk K mg (E5 A9.cls (f9 c m)) c m d) f d (PySem.mem_of_lookup hf) hi;unfold ab7;refine j6 (λ_=>m0.ok ca0 X G) ?_;refine j6 (λ_=>m1.ok ca0 X G bq6 (λ_ _ _ _ _ _ _ _ _ _ _ hT hS=>⟨bdS λ_=>bdS λ_=>bdS λ_=>bdZ (Hx rfl hT hS rfl rfl),λus hl=>match us,hl with|[_,_],_=>Hx rfl hT hS rfl rfl⟩)) ?_;refine j6 (λ_=>m2.ok ca0 X G) ?_;refine j6 (λ_=>m3.ok ca0 X G) ?_;refine j6 (λ_=>m4.ok ca0 X G) ?_;refine j6 (λ_=>m5.ok ca0 X G) ?_;refine j6 (λ_=>m6.ok ca0 X G) ?_;refine j6 (λ_=>m7.ok ca0 X G) ?_;refine j6 (λ_=>m8.ok ca0 X G) ?_;refine j6 (λ_=>m9.ok ca1 X G) ?_
  iterate 57 refine j6 (λhi=>absurd hi (by decide+kernel)) ?_
  exact bn2
 ·
  unfold A9 at hf;simp only at hf
  by_cases hck:c="!kt"
  ·subst hck;rw[kx0]at hn;cases hn
  rw[if_neg hck]at hf
  by_cases hdk0:c="!Shelf.laid_kind"
  ·subst hdk0;rw[ky0]at hn;cases hn
  rw[if_neg hdk0]at hf
  by_cases hc0:c="Shelf"
  ·subst hc0;rw[ca0.a]at hn;cases hn;rw[if_pos rfl]at hf;simp only[AK,Aa,or_false]at hf;refine⟨ca0.cl,?_⟩
   rcases hf with rfl|rfl|rfl|rfl
   ·exact cf0_0
   ·exact cf0_1
   ·exact cf0_2
   ·exact cf0_3
  rw[if_neg hc0]at hf
  by_cases hc1:c="Node"
  ·subst hc1;rw[ca1.a]at hn;cases hn;rw[if_pos rfl]at hf;simp only[AK,Aa,or_false]at hf;refine⟨ca1.cl,?_⟩
   rcases hf with rfl|rfl|rfl|rfl|rfl|rfl|rfl
   ·exact cf1_0
   ·exact cf1_1
   ·exact cf1_2
   ·exact cf1_3
   ·exact cf1_4
   ·exact cf1_5
   ·exact cf1_6
  rw[if_neg hc1]at hf;exact absurd hf Aa
 ·unfold A9 at hg ⊢;simp only at hg ⊢
  by_cases hg0:g="INNER_FROM"
  ·subst hg0;exact as1 X G ga0 gt0
  rw[if_neg hg0]at hg
  by_cases hg1:g="UNDER_ONE_MORE"
  ·subst hg1;exact as1 X G ga1 gt1
  rw[if_neg hg1]at hg
  by_cases hg2:g="BY_WORD"
  ·subst hg2;exact as1 X G ga2 gt2
  rw[if_neg hg2]at hg;exact absurd rfl hg
 ·unfold A9 at hg;simp only at hg
  by_cases hg0:g="FEW"
  ·subst hg0;rw[if_pos rfl]at hg;cases hg;exact⟨_,IX X G kc0,kv0⟩
  rw[if_neg hg0]at hg;cases hg
 ·
  rw[(by decide+kernel:A9.cls "!is"=([]:List Str))]at hc;cases hc
end Ek
namespace PySem.W.Fast
local macro_rules|`(command|include $x*)=>do return Lean.mkNullNode (← x.mapM fun i=>Lean.MonadRef.withRef .missing `(command|theorem $i:ident:True:=⟨⟩))
include tw9383158067692927086 tw2972979460303536362 tw10740558594085761749 tw7226146576081663251 tw15518654522368418609 tw89238475326116172 tw5821053567937654127 tw2989391996279961796 tw2609071620377468999 tw3703541488569005564 tw2355263537298643687 tw12705799630972550831 tw16464691931735185449 tw18054637533499532465 tw5839161457682679666 tw15899795226791857770 tw525685234370244051 tw2741224570399524269 tw2416781895426661843 tw127570304684937169 tw7677412743767361981 tw12347524140738064184 tw12111539176529679148 tw10235076644738576825 tw8169207131028069241 tw3907726647710120403 tw8267273947699184998 tw6564577551888568219 tw3726366087145968275 tw7578271956981566871 tw9792547603057451607 tw7216274670626040078 tw2727434587832025374 tw4330713512755006650 tw5560327784658627837 tw17602955574281893665 tw9709048631949359419 tw11653578846295992073 tw2062120076509081891 tw15890662261107768023 tw932810468453196603 tw14470474530549165183 tw11068288601879510437 tw12165190545527018999 tw1877354336741465868 tw12937529750263335827 tw6007217524593538020 tw15297998159733029540 tw3892959104423628952 tw16470645806374904610 tw1181428588208766346 tw2954867486115081727 tw14677127363294617203 tw7604985608741807881 tw2173477789016415421 tw17463686665942544504 tw3669599198762237702 tw11717619982741648050 tw13849368529716420442 tw13092858074268581476 tw10049727555731365853 tw4785843582873597114 tw1251238552399562612 tw7396509436574215157 tw12863925883276062370 tw16074892457550959391 tw12528499800398204237 tw17749494828556245946 tw1827711702639212551 tw18006302180348181228 tw7514788895663673767 tw10907205970419397689 tw9121846134834925233 tw3024277183200997391 tw10354419835223215941 tw6934434794792745682 tw160355324103212346 tw1162274645661730760 tw8661680405915452876 tw9352006961210386302 tw7557744238516611967 tw5022457724757257062 tw10137943231873346221 tw17861386453903778649 tw2964332483422646089 tw12411142653595886426 tw4131673285956351999 tw7860214247168756938 tw10353039568854487564 tw5624487093687449260 tw8020134657108379570 tw13283715149807061420 tw1143106775368427245 tw4783270582648933593 tw12701172175988009488 tw14811900918647359246 tw13881152588370005656 tw15018127956838413524 tw7763719642214320787 tw15298948511498217520 tw17698624811195977816 tw1713091502057754942 tw3225845580232463980 tw2435624077725532922 tw341195424941341949 tw11894513808976900282 tw16285865732094392351 tw17392863826331850824 tw10118309725882989259 tw3993770615133788333 tw3884813944901050471 tw7398258645253909044 tw2988868498679040585 tw11547787460208904778 tw16535367468005656976 tw4371336571553701208 tw16253337649890745050 tw14400648912269747878 tw2189938352143276863 tw17036130374876660035 tw14947743854560414454 tw3771187355739295789 tw11727158467813421417 tw11259824954350119748 tw15484758368970511438 tw4001222745323110848 tw12059707136401758931 tw15896658593269615386 tw12409480577461117156 tw4707098882806946695 tw11731435181369290564 tw479269084644362455 tw12102884966758841483 tw11187318588760658580 tw177979212436013835 tw7610831984363277388 tw11872751318617169679 tw10766150244812510398 tw11493454311841382472 tw1852213649106599398 tw18210755069055633034 tw6960691367342589015 tw3010422859635427272 tw12986148924429701910 tw16608037678309690096 tw13800158444984727766 tw1960133138752805742 tw17914987939030550156 tw17347299849142538387 tw10634043600373478018 tw5409789230870413402 tw17481384074667310739 tw7125344076307973929 tw18330981969040516095 tw5416181028468089472 tw9228810810561685961 tw15975899084892279996 tw4818142580122239357 tw11704105349716407351 tw2961492193044138740 tw13357347056951424660 tw10828943743802611912 tw13247809521922184235 tw13907067144970960013 tw3217300110627873889 tw18406094848650446116 tw2566559955350106836 tw3892910512922678855 tw18113242706840133354 tw10527053477473897256 tw18219790731364635728 tw10524047275014254186 tw4471876197205258446 tw15841868332472127074 tw15108261508760515968 tw2759529647787644519 tw16086397369530553176 tw4073956881766175044 tw10657292370827821141 tw17628186216992699519 tw957444979416708228 tw16824074275778219610 tw15822644270127111328 tw618124874132810447 tw11305882547920711338 tw15102333409960973591 tw15564935748943290034 tw8871957107433109995 tw14313138103543995829 tw10158563806525767743 tw9083134272397342855 tw3515837815632895214 tw5570067646658689105 tw1758119297004957551 tw12786547992625212299 tw6802342996939024993 tw3631379733763812287 tw14026321844544691256 tw2873904942159479180 tw15103334083117905969 tw1161054197502751863 tw6423773484773995499 tw16405256608790982505 tw3245148101144784670 tw15187336268377610551 tw3027276649511914865 tw12352876404663141530 tw4485024800674933479 tw6542035600437049769 tw11447939771847735326 tw13985109981638824940 tw15547817935207815972 tw17792951105354515891 tw249927334204055341 tw2933495803931332556 tw37984874320915749 tw4502943576509868238 tw175796381556322615 tw2836141821701456065 tw3539750387605971970 tw9837205073048805629 tw2740814173601326343 tw8874085155145976827 tw16596024236100434904 tw4645450019096533175 tw17808587140272793614 tw1600579660586985102 tw5922274974339338353 tw13850606086188032351 tw13262119116786624306 tw7876406022226520994 tw15797387553130180537 tw17745426768355595913 tw12147114683893233936 tw3054247041704047597 tw9646516175943508079 tw8972761216888375838 tw3958010655059878441 tw8647328233166960885 tw11727857110978934641 tw13448759004116871114 tw18379981578589373011 tw13959557172824551385 tw15473892402805716897 tw10480092090452194381 tw13369759227473115718 tw16739495588233325024 tw14421729435688668797 tw2390304620542010264 tw6995314717894115437 tw15365163895097206284 tw10940921752465195993 tw12066230826961689614 tw7097472630582019158 tw5579133776113384852 tw717598804923417573 tw8121541498796791184 tw1909220585207269500 tw8855743192714663117 tw12487080581313558499 tw2342897809804315942 tw16195821722078255993 tw3071324481391030406 tw8701998750178060288 tw4339425062913306195 tw15340649434578030021 tw3107363227847302184 tw6645109667584465822 tw16346665342321413521 tw1539904280154673639 tw8458567353399982643 tw4597853462464936301 tw10989982363311265179 tw18143637944749776559 tw18417662627048681503 tw7527717707583577094 tw5738932431733205239 tw13086038409200868948 tw12007110500372713770 tw11288281322314375030 tw15810495834218794468 tw9063497599728012488 tw17687758855286850169 tw12657320084889221667 tw17820142639505924171 tw6326384774238733650 tw719976688203874392 tw13263922326046446546 tw17325711580467595945 tw6439039874204915297 tw5329054594687172974 tw9954591528883329637 tw106196514094942809 tw18182318056838763778 tw7840665555813241599 tw2276282486653411906 tw9406744591460262044 tw3315162218866051341 tw17559286852749565614 tw9322066323522005534 tw3673140438681770326 tw11612361283455471978 tw7526770397213799904 tw5608267703091930170 tw6339245041510359600 tw869854929489590198 tw12604687711355742552 tw4929419487879156079 tw16424642381186609704 tw10741376892905959356 tw9202730986454323594 tw11661665333880620405 tw16130616161182079951 tw3229622053059177041 tw6019620580142564025 tw10877284909849117127 tw10866986205593717547 tw1090068185546351832 tw489479205405081552 tw1054300407247934721 tw3579592819578603029 tw4956027972238344207 tw4977366849403024201 tw15232915101297883260 tw18438412882704121560 tw2929872723983968969 tw11603621879521951351 tw13444570615983504604 tw9370135028002843103 tw12721387184279561493
end PySem.W.Fast
open PySem PySem.W PyProof.Rows
set_option maxRecDepth 100000 in
set_option maxHeartbeats 0 in
theorem PySem.Challenge.cw_evenkinds_k63_whole_every_table_holds : PySem.Challenge.rw_evenkinds_k63_whole_every_table.Holds := by
 w_on;o_law;k_head;(case hw=>w_witness2)
 k_fill
 refine Ek.cf6 (l:=PySem.Challenge.rw_evenkinds_k63_whole_every_table) (P:=Ek.ab4) (G:=Ek.A9) (n:=200) (x:="_law_script") (dl:=Ek.V5) rfl rfl rfl ⟨rfl,∅,∅⟩ (λw h Y=>⟨W.km_in_of Y,W.km_tabs_of Y⟩) rfl ?hst ?F Ek.b06
 case hst=>
  intro st ps S;have e:=S.sc.pre;have e2:=S.np;rw[e2]at e;exact e.symm
 case F=>
  intro w mg h KX G
  refine' Ek.cv4 KX G ?_ ?_ ?_ ?_ ?_ ?_ ?_ ?_ ?_ ?_ ?_ ?_ ?_ ?_ ?_ ?_ ?_ ?_ ?_ ?_ ?_ ?_ ?_ ?_ ?_ ?_ ?_ ?_ ?_ ?_ ?_ ?_ ?_ ?_ ?_ ?_ ?_ ?_ ?_ ?_ ?_ ?_ ?_ ?_ ?_ ?_ ?_ ?_ ?_ ?_ ?_ ?_ ?_ ?_ ?_ ?_ ?_ ?_ ?_ ?_ ?_ ?_ ?_ ?_ ?_ ?_ ?_ ?_ ?_ ?_ ?_ ?_ ?_ ?_ ?_ ?_ ?_ ?_ ?_ ?_ ?_ ?_ ?_ ?_ ?_ ?_ ?_ ?_ ?_ ?_ ?_ ?_ ?_ ?_
  rotate_left 6
  iterate 4 (refine' Ek.fnA ?a ?b ?c ?d;(case a=>k_is);(case b=>k_is);(case c=>k_is);(case d=>k_is))
  (refine' Ek.fnM ?a ?b ?c ?d ?e ?f ?g;(case a=>k_is);(case b=>k_is);(case c=>k_is);(case d=>k_is);(case e=>rfl);(case f=>kernel_rfl);(case g=>decide))
  iterate 17 (refine' Ek.fnA ?a ?b ?c ?d;(case a=>k_is);(case b=>k_is);(case c=>k_is);(case d=>k_is))
  (refine' Ek.fnM ?a ?b ?c ?d ?e ?f ?g;(case a=>k_is);(case b=>k_is);(case c=>k_is);(case d=>k_is);(case e=>rfl);(case f=>kernel_rfl);(case g=>decide))
  iterate 4 (refine' Ek.fnA ?a ?b ?c ?d;(case a=>k_is);(case b=>k_is);(case c=>k_is);(case d=>k_is))
  (refine' Ek.fnM ?a ?b ?c ?d ?e ?f ?g;(case a=>k_is);(case b=>k_is);(case c=>k_is);(case d=>k_is);(case e=>rfl);(case f=>kernel_rfl);(case g=>decide))
  iterate 29 (refine' Ek.fnA ?a ?b ?c ?d;(case a=>k_is);(case b=>k_is);(case c=>k_is);(case d=>k_is))
  (intro b hb;simp only[Ek.ab0,AK]at hb;(repeat' (rcases hb with rfl|hb))<;>k_is)
  k_is
  rfl
  k_is
  rfl
  k_is
  rfl
  k_is
  rfl
  iterate 2 k_is
  iterate 2 (refine' Ek.clA ?a ?b ?c ?d ?e ?f ?g;(case a=>k_is);(case b=>k_is);(case c=>k_is);(case d=>k_is);(case e=>k_is);(case f=>k_is);(case g=>k_is))
  iterate 11 k_is
  (refine' Ek.mtA ?a ?b ?c ?d ?e ?f;(case a=>k_is);(case b=>k_is);(case c=>k_is);(case d=>k_is);(case e=>k_is);(case f=>k_is))
  (refine' Ek.mtD ?a ?b ?c ?d ?e ?f ?g;(case a=>k_is);(case b=>k_is);(case c=>k_is);(case d=>k_is);(case e=>k_is);(case f=>k_is);(case g=>k_is))
  iterate 8 (refine' Ek.mtA ?a ?b ?c ?d ?e ?f;(case a=>k_is);(case b=>k_is);(case c=>k_is);(case d=>k_is);(case e=>k_is);(case f=>k_is))
  iterate 3 rfl
#print axioms PySem.Challenge.cw_evenkinds_k63_whole_every_table_holds
