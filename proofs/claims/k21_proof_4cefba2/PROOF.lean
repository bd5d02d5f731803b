import PyProof.Rows.All
import PyProof.TupleKey
import PyProof.P3Eq
import PyProof.DictKinds
import Wide.All
import OpenK.AllK
import Wide.FinOn
import Lean
import PyProof.EqAt
import PyProof.EqKinds
import PyProof.TupleCall
import PyProof.ListMulRoad
import PyProof.FactsAll.tuple
import PyProof.ZipIter
import PyProof.ListNew
import KE.KRevIter
import KE.LcSums
import PyProof.EnumStmt
import PyProof.AttrMissHeap
import KE.KDictOf
import PySem.Challenge.RW_evenkinds_k21_kinds_of_programs
set_option Elab.async false
set_option maxHeartbeats 4000000
set_option compiler.extract_closed false
set_option genSizeOf false
set_option bootstrap.genMatcherCode false
set_option linter.all false
open List (mem_cons mem_filter mem_append length_cons append_assoc length_nil getElem?_eq_getElem any_eq_true getElem?_eq_none mem_flatten)
open Nat (mul_comm pow_pos)
open Bool (false_eq_true not_eq_true')
open Option renaming some->AA,none->AE,isSome_iff_exists->BW,isSome_map->FG,map_some->Fq,casesOn->GC,isSome_some->HV,getD_none->Hr
open Decidable renaming decide->AB
open Bool renaming true->AC,false->AG,false_ne_true->AH,and_eq_true->At,false_eq_true->BO,and_self->DN,not_true->FA,false_or->FC,eq_iff_iff->GA,not_eq_true'->GS,and_false->Iu,decide_or->Iz,or_false->JJ,true_or->JW
open PySem renaming wpAny_bind->AD,Value->AF,Addr->AI,Shared->AJ,wpAny_pure->AK,mainGlobals->AN,Expr->AS,wpAny->AT,PyData->Af,Program->Ai,starEach->Ak,World->Ax,bootBuiltins->BA,Heap->BC,wpAny_field->BG,Scope->BH,wpAny_call_entry->BI,wpAny_callSpecial?_slot->BK,Around->BL,Stmt->BR,bindArgs->BX,wpAny_newObj_type->BY,FuncData->Ba,wpAny_mono->Bd,cLine->Bk,compareOp->Bl,backTo->Bm,wpAny_holding->Bs,assignEach->Bv,wpAny_Call_Name_kw->Bw,builtinLookup_eq_fast->By,wpAny_specialOf->CA,sysModules->CH,behindInMarks->CI,call_meets->CU,wpAny_setField_rec->CV,wpAny_passesOwn->CY,swapsWith->Cb,attributeBase->Cc,wpAny_truthy_bool->Cd,Builtin->Cf,wpAny_seqItems->Cj,builtinsNs->Ck,rawInt->Cm,binaryOp->Co,Arguments->Cr,typeLookup_type->Cy,keywordEach->DE,foldedSetIterable->DH,FuncBody->DM,DictEntry->DR,wpAny_rule->DU,getItem->Da,sliceBounds->Dd,CmpOp->Dn,codeAny->Dq,wpAny_typeOf->Ds,TriplesOk->Dw,pyNext->EB,wpAny_setField->ED,wpAny_pyIter_tuple->EE,methodCallForm->EF,isSubtype_type->EG,eqIsQuiet_byValue->EM,wpAny_pyIter_enum->EO,wpAny_attempt->EU,wpAny_pyHash_str->Ea,wpAny_isInstance->Eb,Operator->Ec,backToKw->Ee,letOwnedTupleGo->Ex,wpAny_loadPart'->Ey,NameKind->FP,IsPart->FQ,firstArgMember->FR,wpAny_of_eq->FT,codeAmong->FX,swapsWithSole->Fm,typeLookup->Fv,BindsTo->GM,codeAny_mono->GN,wpAny_sequenceKey->GO,valueAt->GQ,wpAny_pyHash_int->GW,PassesOwn->GX,noFill_tuple_add->GZ,sizeLine_eq->Ge,wpAny_mkInt->Gi,wpAny_execs_nil->Gn,standAt->Gr,Keyword->Gy,callerA->HB,isTrue->HK,recursionLimit->HN,atKey->HQ,closureFor->HR,wpAny_standAt->Hb,seq_tuple_add->He,wpAny_comprehension_free->Hf,Comprehension->Hj,bindL->Hn,bindC->Ho,seqIndex?->Hq,pyIter->Hu,Result->Hx,concat_meets->Hz,seqIndex_neg->IA,wpAny_Call_method_late->IC,wpAny_isTrue_Compare1->IK,getitemInPython_of_ne->IM,seqIndex_of->IT,wpAny_letTemporaryGo->IV,wpAny_newFunctionEnv->IX,Meets->IY,wpAny_pyIter_revIter->IZ,entryFor->Ie,loadIfAlive->Ig,wpAny_Name->JD,typeIs_int->JK,getattributeRaised->JM,setItem->JR,wpAny_assign_Name->JS,slot_list_getitem->JU,wpAny_Call_method->JX,dictGet->Ja,slot_dict_getitem->Jb,beq_builtin_none->Je,wpAny_forIn_list->Jf,wpAny_execs_cons->Jg,getMethod->Ji,cellsFrom->Jl,wpAny_Dict_empty->Jo,entryFor_of_tree->Jt,wpAny_operating->KF,codeAny_builtin->KJ,wpAny_Compare1->KQ,IntMulOk->KR,wpAny_notIn_of->KY,letTemporaryGo->KZ,cellOf->Ka,compEnvC->Kb,newFunctionEnv->Kf,newExc->Kg,newTuple->Kh,IsEnum->Ki,entryFor_alias->Kk,argsOk->Kl,setField->Km,isSubtype_stop->Ko,BoolOp->Kq
open List renaming getElem?_eq_getElem->AL,mem_cons->AM,getElem?_eq_some_iff->AR,length_map->AV,length_cons->AW,replicate->AX,size_toArray->AY,map_cons->Aa,length_append->Ac,getElem?_append_left->Ad,not_mem_nil->Ae,map_append->Ag,getElem?_append_right->Aj,getElem?_map->Am,mem_cons_of_mem->Ao,eq_nil_of_length_eq_zero->Ay,mem_append_right->BD,mem_of_getElem?->BE,nodup_cons->BM,append_nil->BP,length_nil->BQ,mem_append->Bc,find?_cons->Bg,mem_singleton->Bi,mem_cons_self->Br,getElem?_eq_none->Bu,replicate_succ->Bx,cons_append->CB,flatten_cons->CC,prefix_refl->CD,mem_flatten->CG,map_map->CL,flatten_append->CO,append_assoc->CT,mem_map->Ce,map_nil->Cq,range->Cs,lookup->Ct,getElem?_replicate->Cz,length_take->DD,filterMap_cons->DG,reverse_cons->DJ,take_of_length_le->DL,length_replicate->DV,nil_append->DW,mem_iff_getElem?->DY,casesOn->Db,lookup_cons->De,all_eq_true->Dh,sum_cons->Di,mem_append_left->Dk,drop_eq_getElem_cons->Dp,length_drop->EN,zip_cons_cons->ET,getElem?_reverse->EW,any_cons->Ef,take_append_drop->Eh,mem_iff_getElem->Ej,sum_append->Eu,nodup_append->Ew,length_reverse->Ez,foldl->FF,filter_append->FN,getElem?_set->FW,map->FY,eraseIdxIfInBounds_toArray->Fc,of_mem_zip->Fs,length->Fu,any_eq_false->GK,ext_getElem?->GT,mem_or_eq_of_mem_set->Gd,getElem?_take_of_lt->Gg,getElem_mem->Gj,any_eq_true->Gk,getElem?_cons_succ->Go,getElem?_set_self->Gq,filter_eq_nil_iff->HE,length_singleton->HP,getElem?_set_ne->HS,reverse_reverse->HX,map_congr_left->Hk,reverse_append->Hl,mem_filterMap->Hm,take_sublist->Hy,sum_nil->IJ,range'_succ->IP,drop_length->IQ,forIn_cons->IW,take_left'->Ic,take_length->Ih,map_reverse->Ii,mapIdx_cons->Ij,mem_range->Iq,nodup_nil->Iv,map_take->JN,map_drop->JO,map_set->Jd,range'->Jq,drop_zero->Jx,filter->KB,drop->Kr
open PySem.W renaming Frag->AO,nsIn->Aw,findIn->BS,keepIn->Bh,codeHdIn->Bt,kia_one->CW,emptyDict->Cg,codeIn->Cu,fnOf->Cw,callWith_K->Dl,instObj->Dm,kitOne->EQ,plainGet->Fb,hasDictIn->GU,methodCall_KW->Gb,tabObj->Gp,plainGet_of->HM,makesIn->HU,isFn->Hd,mg_of->Hh,methodObj->Hs,lookIn->Hv,plainOver->Hw,noTabs->IH,takerIn->JF,cellsFrom_some->JG,callWith_K0->KC,codeHd_of_K->KO,kitx_tuple->KS
open PySem.Heap renaming get?_push_of_some->AQ,get?_push_size->Ap,lt_size->Au,SameBut->Az,get?_update_self->Ed,ExtBut->Ei,size_push->FV,get?_update_other->Gx
open Nat renaming le_refl->AU,lt_of_lt_of_le->Al,le_trans->BF,ne_of_lt->BJ,zero_le->BU,pow_le_pow_right->BV,lt_irrefl->DC,min_le_right->Dr,lt_succ_of_lt->Dt,min->Dv,add_assoc->EZ,succ_ne_self->Em,le_add_right->Fw,le_of_lt->GH,ne_of_gt->GJ,lt_succ_self->GL,mul_comm->GR,le_succ->Gv,lt_of_le_of_lt->IE,add_sub_cancel->IG,zero_add->Ik,pow_succ->Il,min_le_left->Io,le_of_eq->Jj,add_zero->Jv,sub_zero->Jw,sub_self->Jz,add_comm->KW,not_lt->Ke,max_zero->Ks
open False renaming elim->AZ
open PySem.Str renaming ofString->Ab
open List.cons renaming injEq->Ah
open PySem.Value renaming ref->An,none->Bf,int->DZ,str->EA,type->EI,bool->GE,float->HI,builtin->Im,isStrOf->Ip,isInt->JP,bytes->JQ
open PySem.PyData renaming eqv->Aq,depthAll->CK,eqvAll->Ci,canLayAll0->Cv,canLay0->EV,depth->FE,strOk->JB
open Option.some renaming inj->Ar,injEq->Bo
open PySem.NameKind renaming free->As
open Ne renaming symm->Av
open PyProof.Rows renaming callWith_type1->BB,slot_tuple_getitem->BN,Good->DQ,slot_tuple_getitem->EC,subscriptTail->Fn,AllBare->GF,IntsAre->GP,envOfC->GY,IsTup->HJ,Constant_none->HZ,subscriptTail_builtinR->IB,Call_->IS,entry_tuple_getitem->Ir,args_tuple_getitem->JH,Subscript_->JI,callWith_builtin1->KD,slicePart_none->KU
open PySem.Builtin.SmallTypes renaming nextOf->BZ,ownedTupleIsFree->CM,ownedTupleHandOut->Dj
open PySem.Builtin.Tuple renaming tupleHashOf->Bb,tupleItemsOf->CJ,tupleExact->CS,tupleTooMany->FD,tupleIsExact->Ju
open ForInStep renaming yield->Be
open PySem.Calls renaming callWith_builtin->Bj,evalArgs_plain->CZ,spliced_cons->Cp,spliced_nil->Do,Name_function_global->GI
open PyProof.Rows.KTD renaming datumAt->Bn
open True renaming intro->Bp
open PySem.Builtin.List renaming listTooLong->Bq
open Sum renaming inr->Bz,inl->Fa
open PySem.Obj renaming data_mapFields->CN,mapSeq->ER,isFreed_of_fields->Eg,cls_mapFields->IN
open PySem.Builtin.Slice renaming slicePlaces->CP,sliceAdjust->DI,sliceApplied->FB,slicePartIndex->Jm,sliceFields->Jn
open PySem.Heap.SameBut renaming update->CQ
open PySem.F renaming slot_tuple_iterator_next->Ch,slot_enumerate_next->DP,slot_enumerate_getattribute->DX,slot_tuple_hash->EH,slot_tuple_mul->ES,args_tuple_iterator_next_1->Ga,entry_tuple_iterator_next->Gh,args_enumerate_next_1->HW,entry_enumerate_next->Hi,args_list_extend_2->ID,args_object_init_2->IF,entry_list_extend->IL,slot_list_extend->IU,args_tuple_mul_2->Ia,slot_tuple_rmul->Iw,entry_tuple_mul->Iy,entry_list_pop->JL,slot_list_pop->JV,slot_int_rmul->JZ
open PySem.Builtin.Int renaming intBits->DF,intTooBig->Fx
open PySem.Stmt.FunctionDef renaming elim->Dc
open Int renaming toNat_natCast->Du,toNat->HC,eq_ofNat_of_zero_le->HG,emod_lt_of_pos->II,natCast_mul->Ix,emod_nonneg->JC,pow_succ->Jy,le_refl->KP
open PySem.Expr.Attribute renaming elim->Dx
open PySem.Expr.Subscript renaming elim->Dy
open PySem.Arg renaming arg->Dz
open PySem.Expr.ListComp renaming elim->EJ
open PySem.Expr.Constant renaming elim->EK
open PySem.Stmt.Continue renaming elim->EL
open PySem.Expr.UnaryOp renaming elim->EX
open PySem.Expr.Compare renaming elim->EY
open Array renaming length_toList->El,toList_append->Eo,getElem?_toList->Gz,forIn_toList->HY,toList->JE
open PySem.Expr.BoolOp renaming elim->Ep
open PySem.Stmt.Assign renaming elim->Er
open PySem.Stmt.Return renaming elim->Et
open PySem.Expr.BinOp renaming elim->FH
open PySem.Expr.IfExp renaming elim->FI
open PySem.Expr.Tuple renaming elim->FJ
open PySem.Expr.Slice renaming elim->FK
open PySem.Stmt.While renaming elim->FL
open Char renaming toNat->FM
open Std.Legacy.Range renaming size->FU,forIn_eq_forIn_range'->JA
open PySem.SeqAt renaming eqAt_reads->FZ,EqAt->Hg
open PySem.Builtin.Dict renaming updateFrom->Fe,missed->KH,addKeywords->KL,pairItems->KM,selfAndRest->KN
open PySem.Expr.Dict renaming elim->Fg
open PySem.Expr.Call renaming elim->Fh
open PySem.Expr.Name renaming elim->Fi
open PySem.Expr.List renaming elim->Fj
open PySem.Stmt.Expr renaming elim->Fk
open PySem.Stmt.Pass renaming elim->Fl
open PySem.AutoSeq1 renaming wpAny_loadPart'->GB
open PySem.Stmt.For renaming elim->GD
open Nat.succ renaming inj->GV
open PySem.Stmt.If renaming elim->Gc
open PySem.Around renaming under->Gf,frames_deeper->Gw,under_plainId->HD
open Sum.inr renaming inj->Gm
open PySem.Code renaming isFrame->Gu,frames->Jk
open PySem.Heap.DictOf renaming new->HA
open PySem.BindsTo renaming of_defaults->HH
open PySem.CmpOp renaming NotIn->HL
open Prod.mk renaming injEq->IR
open Eq renaming symm->Ib,trans->Jc
open PySem.Heap.IsSliceOf renaming new->JT
open PySem.W.WShape renaming has->JY
open PySem.Builtin.Range renaming rangeSize->Jh
open List.Pairwise renaming nil->Jp,map->Jr
open PySem.W.WData renaming int->KG
open PySem.SeqAt.Reads renaming unique->Kj
namespace PySem
noncomputable instance decPyData:DecidableEq Af:=λa b=>Classical.propDecidable (a=b)
namespace NK
mutual
noncomputable def lit:Af->Bool
 |.int _=>AC
 |.str x=>EV (.str x)
 |.tuple ds=>lits ds
 |_=>AG
noncomputable def lits:List Af->Bool
 |[]=>AC
 |d::r=>lit d&&lits r
end
mutual
theorem al4:∀d:Af,lit d=AC->d.canLay0=AC
 |.int _,_=>rfl
 |.str _,h=>h
 |.tuple ds,h=>by rw[EV];exact az8 ds h
 |.none,h=>nomatch h
 |.bool _,h=>nomatch h
 |.list _,h=>nomatch h
 |.dict _,h=>nomatch h
theorem az8:∀ds:List Af,lits ds=AC->Cv ds=AC
 |[],_=>rfl
 |d::r,h=>by
  have h':lit d=AC∧lits r=AC:=by simpa[lits]using h
  show(d.canLay0&&Cv r)=AC;rw[al4 d h'.1,az8 r h'.2];rfl
end
mutual
theorem eqv_lit:∀x y:Af,lit x=AC->lit y=AC->(Aq x y=AC↔x=y)
 |.int i,.int j,_,_=>by rw[Aq];simp
 |.int i,.str y,_,_=>by simp[Aq]
 |.int i,.tuple ys,_,_=>by simp[Aq]
 |.str x,.int j,_,_=>by simp[Aq]
 |.str x,.str y,_,_=>by rw[Aq];simp
 |.str x,.tuple ys,_,_=>by simp[Aq]
 |.tuple xs,.int j,_,_=>by simp[Aq]
 |.tuple xs,.str y,_,_=>by simp[Aq]
 |.tuple xs,.tuple ys,hx,hy=>by rw[Aq,ax6 xs ys hx hy];simp
 |.none,_,h,_=>nomatch h
 |.bool _,_,h,_=>nomatch h
 |.list _,_,h,_=>nomatch h
 |.dict _,_,h,_=>nomatch h
 |_,.none,_,h=>nomatch h
 |_,.bool _,_,h=>nomatch h
 |_,.list _,_,h=>nomatch h
 |_,.dict _,_,h=>nomatch h
theorem ax6:∀xs ys:List Af,lits xs=AC->lits ys=AC->(Ci xs ys=AC↔xs=ys)
 |[],[],_,_=>by simp[Ci]
 |[],y::ys,_,_=>by simp[Ci]
 |x::xs,[],_,_=>by simp[Ci]
 |x::xs,y::ys,hx,hy=>by
  have hx':lit x=AC∧lits xs=AC:=by simpa[lits]using hx
  have hy':lit y=AC∧lits ys=AC:=by simpa[lits]using hy
  rw[Ci,At,eqv_lit x y hx'.1 hy'.1,ax6 xs ys hx'.2 hy'.2];simp
end
theorem aj4:∀{ds:List Af},lits ds=AC->∀d∈ds,lit d=AC
 |[],_,d,h=>by cases h
 |e::r,hl,d,h=>by
  have h':lit e=AC∧lits r=AC:=by simpa[lits]using hl
  rcases AM.mp h with rfl|h
  ·exact h'.1
  ·exact aj4 h'.2 d h
theorem ai2:∀{ds:List Af}{d:Af},d∈ds->d.depth<=CK ds
 |e::r,d,h=>by
  show d.depth<=max e.depth (CK r)
  rcases AM.mp h with rfl|h
  ·lia
  ·have:=ai2 h;lia
def depth_tup{ds:List Af}:(PyData.tuple ds).depth=CK ds+1:=by rw[FE]
mutual
theorem bj0{h:BC}:∀(x y:Af){v:AF}{as bs:List AI},lit x=AC->lit y=AC->Reads h v x as->Reads h v y bs->x=y
 |.int i,y,v,as,bs,_,hy,rx,ry=>by
  cases rx;cases ry;rfl
 |.str x,y,v,as,bs,_,hy,rx,ry=>by
  cases rx;cases ry;rfl
 |.tuple xs,y,v,as,bs,hx,hy,rx,ry=>by
  cases rx with
  |tuple e1 e2 e3 e4=>
   cases ry with
   |tuple f1 f2 f3 f4=>
    rw[e1]at f1;cases f1;rw[e3]at f3;cases f3;rw[a68 xs _ hx hy e4 f4]
   |list=>cases hy
   |dict=>cases hy
 |.none,_,_,_,_,h,_,_,_=>nomatch h
 |.bool _,_,_,_,_,h,_,_,_=>nomatch h
 |.list _,_,_,_,_,h,_,_,_=>nomatch h
 |.dict _,_,_,_,_,h,_,_,_=>nomatch h
theorem a68{h:BC}:∀(xs ys:List Af){vs:List AF}{as bs:List AI},lits xs=AC->lits ys=AC->ReadsAll h vs xs as->ReadsAll h vs ys bs->xs=ys
 |[],ys,vs,as,bs,_,_,rx,ry=>by cases rx;cases ry;rfl
 |x::xs,ys,vs,as,bs,hx,hy,rx,ry=>by
  cases rx with
  |cons r1 r2=>cases ry with
   |@cons _ _ y ys _ _ q1 q2=>
    have hx':lit x=AC∧lits xs=AC:=by simpa[lits]using hx
    have hy':lit y=AC∧lits ys=AC:=by simpa[lits]using hy
    rw[bj0 x y hx'.1 hy'.1 r1 q1,a68 xs ys hx'.2 hy'.2 r2 q2]
end
mutual
theorem a95{h h':BC}{d:AI}{o:Obj}{es:Array DR}{ep:Nat}(ho:h.get? d=AA o)(hd:o.data=.dict es ep)(hs:Az d h h'):∀(x:Af){v:AF}{as:List AI},lit x=AC->Reads h v x as->∃bs,Reads h' v x bs
 |.int i,v,as,_,r=>by cases r;exact⟨_,.int _ _⟩
 |.str x,v,as,_,r=>by cases r;exact⟨_,.str _ _⟩
 |.tuple xs,v,as,hx,r=>by
  cases r with
  |@tuple a o' _ _ _ _ e1 e2 e3 e4=>
   have hne:a≠d:=by
    rintro rfl;rw[e1]at ho;cases ho;rw[hd]at e3;exact nomatch e3
   obtain⟨bs,r'⟩:=a05 ho hd hs xs hx e4;exact⟨_,.tuple ((hs.2 a hne).trans e1) e2 e3 r'⟩
 |.none,_,_,h,_=>nomatch h
 |.bool _,_,_,h,_=>nomatch h
 |.list _,_,_,h,_=>nomatch h
 |.dict _,_,_,h,_=>nomatch h
theorem a05{h h':BC}{d:AI}{o:Obj}{es:Array DR}{ep:Nat}(ho:h.get? d=AA o)(hd:o.data=.dict es ep)(hs:Az d h h'):∀(xs:List Af){vs:List AF}{as:List AI},lits xs=AC->ReadsAll h vs xs as->∃bs,ReadsAll h' vs xs bs
 |[],vs,as,_,r=>by cases r;exact⟨_,.nil⟩
 |x::xs,vs,as,hx,r=>by
  cases r with
  |cons r1 r2=>
   have hx':lit x=AC∧lits xs=AC:=by simpa[lits]using hx
   obtain⟨b1,q1⟩:=a95 ho hd hs x hx'.1 r1;obtain⟨b2,q2⟩:=a05 ho hd hs xs hx'.2 r2;exact⟨_,.cons q1 q2⟩
end
mutual
noncomputable def hK(w:Ax):Af->Int
 |.int i=>hashInt i
 |.str x=>hashStr w x
 |.tuple ds=>reduceHash (Bb (hKs w ds))
 |_=>0
noncomputable def hKs(w:Ax):List Af->List Int
 |[]=>[]
 |d::r=>hK w d::hKs w r
end
mutual
noncomputable def dw:Af->Nat
 |.tuple ds=>dws ds+1
 |_=>1
noncomputable def dws:List Af->Nat
 |[]=>0
 |d::r=>dw d+dws r
end
theorem al2(w:Ax):∀(a b:List Af),hKs w (a++b)=hKs w a++hKs w b
 |[],b=>rfl
 |x::a,b=>by rw[CB,hKs,al2 w a b];rfl
theorem ak6:∀(a b:List Af),dws (a++b)=dws a+dws b
 |[],b=>by simp[dws]
 |x::a,b=>by rw[CB,dws,ak6 a b,dws,EZ]
variable {prog:Ai} {w:Ax}
def cg1:∀(n:Nat)(d:Af),d.depth<=n->lit d=AC->∀{A:BL}{E:AF->AJ->Prop}{s:AJ}{v:AF}{as:List AI}{Q:Int->AJ->Prop},A.units+n<Bk->Reads s.heap v d as->Q (hK w d) {s with toks:=s.toks+dw d}->AT (model prog w) A (pyHash v) Q E s:=by
 intro n
 induction n with
 |zero=>
  intro d hd hl A E s v as Q hu r h;cases r with
  |int i t=>exact GW (by simpa[hK,dw]using h)
  |str x t=>exact Ea (by simpa[hK,dw]using h)
  |tuple=>rw[depth_tup]at hd;lia
  |none=>cases hl
  |bool=>cases hl
  |list=>cases hl
  |dict=>cases hl
 |succ n ih=>
  intro d hd hl A E s v as Q hu r h;cases r with
  |int i t=>exact GW (by simpa[hK,dw]using h)
  |str x t=>exact Ea (by simpa[hK,dw]using h)
  |none=>cases hl
  |bool=>cases hl
  |list=>cases hl
  |dict=>cases hl
  |@tuple a o items m xs as ho hc hda hi=>
   rw[depth_tup]at hd;have hl':lits xs=AC:=hl;have hT:s.TypeIs (.ref a) "tuple":=⟨o,ho,hc⟩;unfold pyHash
   first|unfold pyHashByItsType|skip
   first|refine AD (wpAny_cRoomFor_or (.inr (by lia)) ?_)|skip
   refine AD (CA hT EH.lookup ?_);show AT _ _ (if(AA (Im "tuple.__hash__")==AA Bf)=AC then _ else _) Q E s;rw[if_neg (by rw[Je];exact AH)];refine AD (CA hT EH.lookup ?_);show AT _ _ (callSpecialIfBoundUnlessNone? (.ref a) "__hash__" _>>=_) Q E s;refine AD (wpAny_callSpecialIfBoundUnlessNone?_slot hT EH (BI EH hT F.entry_tuple_hash ?_ (F.args_tuple_hash_1 _)));show AT _ _ (CJ (.ref a)>>=_) _ _ s;refine AD (wpAny_tupleItemsOf ho hda ?_);refine AD ?_;rw[<-HY];refine Jf _
    (λi5(b:Array Int)s'=>∃done left bs,xs=done++left∧ReadsAll s.heap i5 left bs∧b.toList=hKs w done∧s'={s with toks:=s.toks+dws done})
    _ ?_ ?_ _ _ ⟨[],xs,_,rfl,hi,rfl,rfl⟩
   ·rintro x i5 b s' ⟨done,left,bs,rfl,hl2,hb,rfl⟩;cases hl2 with
    |@cons _ _ k ks' _ _ h1 hl3=>
     have hk:k∈done++k::ks':=by simp
     refine AD (ih k (by have:=ai2 hk;lia) (aj4 hl' k hk) ?_ h1 ?_)
     ·show A.units+1+n<Bk;lia
     first
      |exact AK ⟨done++[k],ks',_,by simp,hl3,by rw[al2];simp[hb,hKs],by simp[ak6,dws,EZ]⟩
      |exact AD (AK (AK ⟨done++[k],ks',_,by simp,hl3,by rw[al2];simp[hb,hKs],by simp[ak6,dws,EZ]⟩))
   ·rintro b s' ⟨done,left,bs,rfl,hl2,hb,rfl⟩;cases hl2;rw[BP]at h;simp only[hK,dw]at h;show AT _ _ (retInt (Bb b.toList)) _ _ _;rw[hb];refine wpAny_ret_mkInt ?_;show AT _ _ (if(AB (-(2:Int)^63<=Bb (hKs w done))&&AB (Bb (hKs w done)<2^63))=AC then _ else _) Q E _;unfold reduceHash at h
    by_cases hr:(AB (-(2:Int)^63<=Bb (hKs w done))&&AB (Bb (hKs w done)<2^63))=AC
    ·rw[if_pos hr];rw[if_pos hr]at h;exact AK (by simpa[EZ]using h)
    ·rw[if_neg hr];rw[if_neg hr]at h;exact AD (DU (AK (by simpa[EZ]using h)))
def b99:∀(n:Nat)(d:Af),d.depth<=n->lit d=AC->∀{A:BL}{E:AF->AJ->Prop}{s:AJ}{v:AF}{as:List AI}{Q:Bool->AJ->Prop},Reads s.heap v d as->Q AC s->AT (model prog w) A (eqIsQuiet n v) Q E s:=by
 intro n
 induction n with
 |zero=>
  intro d hd hl A E s v as Q r h;cases r with
  |int i t=>rw[EM _ rfl];exact AK h
  |str x t=>rw[EM _ rfl];exact AK h
  |tuple=>rw[depth_tup]at hd;lia
  |none=>cases hl
  |bool=>cases hl
  |list=>cases hl
  |dict=>cases hl
 |succ n ih=>
  intro d hd hl A E s v as Q r h;cases r with
  |int i t=>rw[EM _ rfl];exact AK h
  |str x t=>rw[EM _ rfl];exact AK h
  |none=>cases hl
  |bool=>cases hl
  |list=>cases hl
  |dict=>cases hl
  |@tuple a o items m xs as ho hc hda hi=>
   rw[depth_tup]at hd;have hl':lits xs=AC:=hl;have hT:s.TypeIs (.ref a) "tuple":=⟨o,ho,hc⟩;unfold eqIsQuiet;refine AD (CA hT F.slot_tuple_eq.lookup ?_);show AT _ _ (isInstance (.ref a) (.type "tuple")>>=_) _ _ s;refine AD (Eb hT isSubtype_tuple_tuple ?_);simp only[FA,BO,if_false];refine AD (Cj ho hda ?_);refine AD ?_;show AT _ _ (forIn items _ _) _ _ s;rw[<-HY];refine Jf _ (λi5 r s'=>r.1=AE∧s'=s∧∃left bs,(∀k∈left,lit k=AC∧k.depth<=n)∧ReadsAll s.heap i5 left bs) _ ?_ ?_ _ _ ⟨rfl,rfl,xs,_,λk hk=>⟨aj4 hl' k hk,by have:=ai2 hk;lia⟩,hi⟩
   ·rintro v i5 r s' ⟨hr,rfl,left,bs,hall,hl2⟩;cases hl2 with
    |@cons _ _ k ks' _ _ h1 hl3=>
     obtain⟨k1,k2⟩:=hall k (by simp);refine AD (ih k k2 k1 h1 ?_);simp only[FA,BO,if_false];exact AK ⟨rfl,rfl,ks',_,λu hu'=>hall u (by simp[hu']),hl3⟩
   ·rintro⟨r1,r2⟩ s' ⟨hr,rfl,_⟩;simp only at hr;subst hr;exact AK h
noncomputable def isK(h:BC)(k:Af)(a:AI):Prop:=lit k=AC∧k.depth<=7∧∃as,Reads h (.ref a) k as
noncomputable def dataKind(prog:Ai)(w:Ax):HeapKind prog w Af where
 is:=isK
 hash:=hK w
 draws:=dw
 room:=λA=>A.units+8<Bk
 inj:=λ⟨l1,_,_,r1⟩⟨l2,_,_,r2⟩=>bj0 _ _ l1 l2 r1 r2
 keeps:=λ⟨l1,d1,_,r1⟩ho hd hs=>⟨l1,d1,a95 ho hd hs _ l1 r1⟩
 pyHash:=λhu⟨l1,d1,_,r1⟩h=>cg1 7 _ d1 l1 (by lia) r1 h
 eqBool:=λ{A E s x y a b Q}hu⟨l1,d1,_,r1⟩⟨l2,d2,_,r2⟩h=>by
  have e:Aq x y=AB (x=y):=by
   by_cases z:x=y
   ·rw[decide_eq_true z];exact(eqv_lit x y l1 l2).mpr z
   ·rw[decide_eq_false z];cases q:Aq x y with
    |false=>rfl
    |true=>exact absurd ((eqv_lit x y l1 l2).mp q) z
  have:=FZ x y A s _ _ _ _ r1 r2 (al4 x l1) (al4 y l2) (by have:min x.depth y.depth<=x.depth:=Io _ _;lia);rw[e]at this;exact this prog w E Q h
 quiet:=λ⟨l1,d1,_,r1⟩h=>b99 8 _ (by lia) l1 r1 h
def dataKind_room_in1{prog:Ai}{w:Ax}{A:BL}(h:A.units+20<Bk):(dataKind prog w).room A.in1:=by
 show A.units+1+8<Bk;lia
end NK
end PySem
set_option maxRecDepth 100000
namespace L2
open PySem PySem.Spec PyProof.Rows
noncomputable abbrev Key:=Sum Int Str
noncomputable def S9:Key->AF->Bool
 |.inl k,v=>JP k v
 |.inr x,v=>Ip x v
noncomputable def c46(w:Ax):Key->Int
 |.inl k=>hashInt k
 |.inr x=>hashStr w x
def G3:∀{k:Key}{v:AF},S9 k v=AC->(∃i t,k=Fa i∧v=DZ i t)∨(∃x t,k=Bz x∧v=EA x t)
 |.inl i,v,h=>by
  obtain⟨t,e⟩:=Value.isInt_shape (k:=i) (v:=v) h;exact .inl ⟨i,t,rfl,e⟩
 |.inr x,v,h=>by
  obtain⟨t,e⟩:=Value.isStrOf_shape (x:=x) (v:=v) h;exact .inr ⟨x,t,rfl,e⟩
def b51(i:Int)(t:Tok):S9 (.inl i) (.int i t)=AC:=by simp[S9,JP]
def b17(x:Str)(t:Tok):S9 (.inr x) (.str x t)=AC:=by simp[S9,Ip]
def co3(a b:Int):AB ((Fa a:Key)=Fa b)=(a==b):=by
 by_cases e:a=b
 ·subst e;simp
 ·have h:¬(Fa a:Key)=Fa b:=λq=>e (Sum.inl.inj q);rw[decide_eq_false h];exact(beq_eq_false_iff_ne.mpr e).symm
def cq6(a b:Str):AB ((Bz a:Key)=Bz b)=AB (a=b):=by
 by_cases e:a=b
 ·subst e;simp
 ·have h:¬(Bz a:Key)=Bz b:=λq=>e (Gm q);rw[decide_eq_false h,decide_eq_false e]
def cq8(a:Int)(b:Str):AB ((Fa a:Key)=Bz b)=AG:=decide_eq_false (λq=>nomatch q)
def ct0(a:Str)(b:Int):AB ((Bz a:Key)=Fa b)=AG:=decide_eq_false (λq=>nomatch q)
noncomputable def v2(prog:Ai)(w:Ax):PySem.KeyKind prog w Key where
 is:=S9
 hash:=c46 w
 inj:=λv a b ha hb=>by
  rcases G3 ha with⟨i,t,rfl,rfl⟩|⟨x,t,rfl,rfl⟩
  ·rcases G3 hb with⟨j,u,rfl,e⟩|⟨y,u,rfl,e⟩
   ·injection e with e1 _;rw[e1]
   ·exact nomatch e
  ·rcases G3 hb with⟨j,u,rfl,e⟩|⟨y,u,rfl,e⟩
   ·exact nomatch e
   ·injection e with e1 _;rw[e1]
 byValue:=λk v h=>by
  rcases G3 h with⟨i,t,rfl,rfl⟩|⟨x,t,rfl,rfl⟩<;>rfl
 pyHash:=λhv h=>by
  rcases G3 hv with⟨i,t,rfl,rfl⟩|⟨x,t,rfl,rfl⟩
  ·exact GW h
  ·exact Ea h
 eqBool:=λhu hv h=>by
  rcases G3 hu with⟨i,t,rfl,rfl⟩|⟨x,t,rfl,rfl⟩
  ·rcases G3 hv with⟨j,u,rfl,rfl⟩|⟨y,u,rfl,rfl⟩
   ·rw[co3]at h;exact wpAny_eqBool_int h
   ·rw[cq8]at h;exact SeqAt.EqAt.int_str i t y u _ _ _ _ h
  ·rcases G3 hv with⟨j,u,rfl,rfl⟩|⟨y,u,rfl,rfl⟩
   ·rw[ct0]at h;exact SeqAt.EqAt.str_int x t j u _ _ _ _ h
   ·rw[cq6]at h;exact wpAny_eqBool_str h
 «strs»:=λk x t v h=>by
  rcases G3 h with⟨i,u,rfl,e⟩|⟨y,u,rfl,e⟩
  ·exact nomatch e
  ·injection e with e1 _
   subst e1;cases v<;>rfl
def bx4(prog:Ai)(w:Ax)(i:Int)(t:Tok):(v2 prog w).is (.inl i) (.int i t)=AC:=b51 i t
def bx3(prog:Ai)(w:Ax)(x:Str)(t:Tok):(v2 prog w).is (.inr x) (.str x t)=AC:=b17 x t
end L2
namespace L2
open PySem PySem.Spec PyProof.Rows
variable{a b:AI}{h h':BC}{P:Ai}{w:Ax}
inductive V where
 |non|bl (b:Bool)|int (i:Int)|str (x:Str)|byt (b:Array UInt8)|flt (b:UInt64)|ref (a:AI)|ty (n:String)
 deriving DecidableEq
noncomputable def f9:V->AF->Prop
 |.non,u=>u=Bf
 |.bl b,u=>u=GE b
 |.int i,u=>∃t,u=DZ i t
 |.str x,u=>∃t,u=EA x t
 |.byt b,u=>∃t,u=JQ b t
 |.flt b,u=>∃t,u=HI b t
 |.ref a,u=>u=An a
 |.ty n,u=>u=EI n
noncomputable abbrev f7:List V->List AF->Prop:=Paired f9
theorem f7.length{xs:List V}{us:List AF}(r:f7 xs us):xs.length=us.length:=Paired.length r
theorem f7.get:∀{xs:List V}{us:List AF}{i:Nat}{x:V},f7 xs us->xs[i]?=AA x->∃u,us[i]?=AA u∧f9 x u
 |_,_,_,_,.nil,e=>by simp at e
 |_,_,0,_,.cons r _,e=>by simp at e;subst e;exact⟨_,rfl,r⟩
 |_,_,i+1,x,.cons _ t,e=>by
  obtain⟨u,h1,h2⟩:=f7.get (i:=i) (x:=x) t (by simpa using e);exact⟨u,by simpa using h1,h2⟩
theorem f7.set{x:V}{u:AF}(r:f9 x u):∀{xs:List V}{us:List AF}(i:Nat),f7 xs us->f7 (xs.set i x) (us.set i u)
 |_,_,_,.nil=>.nil
 |_,_,0,.cons _ t=>.cons r t
 |_,_,i+1,.cons q t=>.cons q (f7.set r i t)
theorem f7.append:∀{xs ys:List V}{us ws:List AF},f7 xs us->f7 ys ws->f7 (xs++ys) (us++ws)
 |_,_,_,_,.nil,s=>s
 |_,_,_,_,.cons r t,s=>.cons r (f7.append t s)
theorem f7.take:∀{xs:List V}{us:List AF}(n:Nat),f7 xs us->f7 (xs.take n) (us.take n)
 |_,_,0,_=>.nil
 |_,_,_+1,.nil=>.nil
 |_,_,n+1,.cons r t=>.cons r (f7.take n t)
theorem f7.drop:∀{xs:List V}{us:List AF}(n:Nat),f7 xs us->f7 (xs.drop n) (us.drop n)
 |_,_,0,r=>r
 |_,_,_+1,.nil=>.nil
 |_,_,n+1,.cons _ t=>f7.drop n t
noncomputable def w6:Option V->Option AF->Prop
 |some v,AA u=>f9 v u
 |none,AE=>True
 |_,_=>False
noncomputable def KV{κ:Type}:List (κ×V)->List (κ×AF)->Prop:=Paired λ(p:κ×V)(q:κ×AF)=>p.1=q.1∧f9 p.2 q.2
noncomputable def kV:Key->V
 |.inl i=>.int i
 |.inr x=>.str x
inductive HO where
 |lst (xs:List V)
 |tup (xs:List V)
 |dK (kvs:List (Key×V))|dT (kvs:List (Af×V))
 |set (S:Int->Bool) (n:Nat)
 |ins (C dx:AI) (fs:List (Str×V))
 |own (x:AI)
 |xd (fs:List (Str×V))
 |met (f x:AI)
 |rng (lo hi:Int)
 |frz (o:Obj) (u:HO)
 |tbl (ps:Array AF)
 |ext (φ:BC->Prop)
variable{o:HO}
noncomputable abbrev Hp:=AI->Option HO
variable{H:Hp}
noncomputable def upd(H:Hp)(a:AI)(o:HO):Hp:=λb=>if b=a then AA o else H b
def o9:upd H a o a=AA o:=by unfold upd;rw[if_pos rfl]
def i7(h:b≠a):upd H a o b=H b:=by unfold upd;rw[if_neg h]
def c14{u:HO}(h:H a=AA o)(h':H b=AA u)(d:o≠u):a≠b:=by
 intro e;subst e;rw[h]at h';exact d (Ar h')
def t6(h:H a=AA o)(h':H b=AE):a≠b:=by
 intro e;subst e;rw[h]at h';cases h'
mutual
noncomputable def HRd(H:Hp):Af->V->Prop
 |.int i,v=>v=.int i
 |.str x,v=>v=.str x
 |.tuple ds,v=>∃a vs,v=.ref a∧H a=AA (.tup vs)∧L0 H ds vs
 |_,_=>False
noncomputable def L0(H:Hp):List Af->List V->Prop
 |[],vs=>vs=[]
 |d::ds,vs=>∃v r,vs=v::r∧HRd H d v∧L0 H ds r
end
mutual
theorem HRd.keeps{H H':Hp}(ht:∀b ys,H b=AA (.tup ys)->H' b=AA (.tup ys)):∀(d:Af){v:V},HRd H d v->HRd H' d v
 |.int i,v,h=>h
 |.str x,v,h=>h
 |.tuple ds,v,h=>let⟨a,vs,e,h1,h2⟩:=h;⟨a,vs,e,ht a vs h1,L0.keeps ht ds h2⟩
 |.none,_,h=>h.elim
 |.bool _,_,h=>h.elim
 |.list _,_,h=>h.elim
 |.dict _,_,h=>h.elim
theorem L0.keeps{H H':Hp}(ht:∀b ys,H b=AA (.tup ys)->H' b=AA (.tup ys)):∀(ds:List Af){vs:List V},L0 H ds vs->L0 H' ds vs
 |[],vs,h=>h
 |d::ds,vs,h=>let⟨v,r,e,h1,h2⟩:=h;⟨v,r,e,HRd.keeps ht d h1,L0.keeps ht ds h2⟩
end
noncomputable def D4(H:Hp)(d:Af)(b:AI):Prop:=NK.lit d=AC∧d.depth<=7∧HRd H d (.ref b)
theorem D4.keeps{H':Hp}{d:Af}(h:D4 H d b)(ht:∀b ys,H b=AA (.tup ys)->H' b=AA (.tup ys)):D4 H' d b:=⟨h.1,h.2.1,HRd.keeps ht d h.2.2⟩
noncomputable def C3(h:BC)(a:AI)(items:Array AF):Prop:=∃o,h.get? a=AA o∧o.cls=.type "tuple"∧o.dict=AE∧∃n,o.data=.seq items n
def C3.tup{items:Array AF}(x:C3 h a items):HJ h a items:=let⟨o,e,c,_,d⟩:=x;⟨o,e,c,d⟩
def C3.lt{items:Array AF}(x:C3 h a items):a<h.objs.size:=let⟨_,e,_⟩:=x;Au e
def C3.new(h:BC)(items:Array AF):C3 (h.push {cls:=.type "tuple",data:=.seq items}) h.objs.size items:=⟨_,Ap _ rfl,rfl,rfl,_,rfl⟩
section
variable (P:Ai) (w:Ax)
noncomputable def l9(H:Hp)(h:BC)(a:AI):HO->Prop
 |.lst xs=>xs.length<=sizeLine∧∃(its:List AF)(n:Nat),f7 xs its∧h.get? a=AA {cls:=.type "list",data:=.seq its.toArray n}
 |.tup xs=>xs.length<=sizeLine∧∃its:List AF,f7 xs its∧C3 h a its.toArray
 |.dK kvs=>kvs.length<=sizeLine∧(a==CH)=AG∧∃vs,KV kvs vs∧h.DictOf (v2 P w) a vs
 |.dT kvs=>kvs.length<=sizeLine∧(a==CH)=AG∧∃xs:List (Af×AI×AF),
   Paired (λ(p:Af×V)(q:Af×AI×AF)=>p.1=q.1∧D4 H p.1 q.2.1∧f9 p.2 q.2.2) kvs xs ∧
   ∃o es ep,h.get? a=AA o∧o.ExactDict∧o.data=.dict es ep∧es.toList=xs.map (entryOfKey (NK.dataKind P w))∧(xs.map (·.1)).Nodup
 |.set S n=>h.SetOf (intKind P w) a S n
 |.ins C dx fs=>H dx=AA (.own a)∧fs.length<=1000∧dx≠a∧h.get? a=AA (Dm C dx) ∧
   ∃mA,h.Ns1 dx mA∧(∀f,w6 (fs.lookup f) (mA f))∧PySem.Within mA (fs.map (·.1))
 |.own _=>∃o,h.get? a=AA o
 |.xd fs=>∃mA,h.Ns1 a mA∧∀f,w6 (fs.lookup f) (mA f)
 |.rng lo hi=>∃t u v,h.get? a=AA {cls:=.type "range",data:=.fields #[.int lo t,.int hi u,.int 1 v]}
 |.frz o u=>h.get? a=AA o∧l9 H h a u
 |.tbl ps=>h.get? a=AA {cls:=.none,data:=.fields ps}
 |.met f x=>h.get? a=AA (Hs (.ref f) (.ref x))
 |.ext φ=>φ h∧(∃o,h.get? a=AA o)∧∀h1 h2:BC,φ h1->(∀o,h1.get? a=AA o->h2.get? a=AA o)->φ h2
noncomputable def HOk(H:Hp)(h:BC):Prop:=∀a o,H a=AA o->l9 P w H h a o
end
section
variable {H':Hp} 
theorem l9.lt(x:l9 P w H h a o):a<h.objs.size:=by
 cases o with
 |lst xs=>obtain⟨_,_,_,_,e⟩:=x;exact Au e
 |tup xs=>obtain⟨_,_,_,p⟩:=x;exact p.lt
 |dK kvs=>obtain⟨_,_,_,_,o,_,_,e,_⟩:=x;exact Au e
 |dT kvs=>obtain⟨_,_,_,_,o,_,_,e,_⟩:=x;exact Au e
 |set S n=>obtain⟨o,_,_,_,e,_⟩:=x;exact Au e
 |ins C dx fs=>obtain⟨_,_,_,e,_⟩:=x;exact Au e
 |own y=>obtain⟨_,e⟩:=x;exact Au e
 |xd fs=>obtain⟨_,⟨_,_,_,e,_⟩,_⟩:=x;exact Au e
 |rng lo hi=>obtain⟨_,_,_,e⟩:=x;exact Au e
 |frz ob u=>obtain⟨e,_⟩:=x;exact Au e
 |tbl ps=>exact Au (show h.get? a=AA _ from x)
 |met f y=>exact Au (show h.get? a=AA _ from x)
 |ext φ=>obtain⟨_,⟨_,e⟩,_⟩:=x;exact Au e
theorem Paired.mapP{α β:Type}{F G:α->β->Prop}:∀{l₁:List α}{l₂:List β},Paired F l₁ l₂->(∀a b,F a b->G a b)->Paired G l₁ l₂
 |_,_,.nil,_=>.nil
 |_,_,.cons r t,f=>.cons (f _ _ r) (Paired.mapP t f)
def l9.stay(x:l9 P w H h a o)(k:∀b u,(b=a∨H b=AA (.own a))->h.get? b=AA u->h'.get? b=AA u)
  (ho:∀b,H b=AA (.own a)->H' b=AA (.own a)) (ht:∀b xs,H b=AA (.tup xs)->H' b=AA (.tup xs)):l9 P w H' h' a o:=by
 induction o with
 |lst xs=>obtain⟨z,its,n,r,e⟩:=x;exact⟨z,its,n,r,k _ _ (.inl rfl) e⟩
 |tup xs=>obtain⟨z,its,r,ob,e,c⟩:=x;exact⟨z,its,r,ob,k _ _ (.inl rfl) e,c⟩
 |dK kvs=>obtain⟨z,y,vs,r,ob,es,ep,e,c⟩:=x;exact⟨z,y,vs,r,ob,es,ep,k _ _ (.inl rfl) e,c⟩
 |dT kvs=>
  obtain⟨z,y,xs,r,ob,es,ep,e,c⟩:=x;exact⟨z,y,xs,Paired.mapP r λp q z=>⟨z.1,z.2.1.keeps ht,z.2.2⟩,ob,es,ep,k _ _ (.inl rfl) e,c⟩
 |set S n=>obtain⟨ob,es,ep,t,e,c⟩:=x;exact⟨ob,es,ep,t,k _ _ (.inl rfl) e,c⟩
 |ins C dx fs=>
  obtain⟨d,z,ne,e,mA,⟨od,es,ep,e2,c⟩,r⟩:=x;exact⟨ho _ d,z,ne,k _ _ (.inl rfl) e,mA,⟨od,es,ep,k _ _ (.inr d) e2,c⟩,r⟩
 |own y=>obtain⟨ob,e⟩:=x;exact⟨ob,k _ _ (.inl rfl) e⟩
 |xd fs=>obtain⟨mA,⟨od,es,ep,e,c⟩,r⟩:=x;exact⟨mA,⟨od,es,ep,k _ _ (.inl rfl) e,c⟩,r⟩
 |rng lo hi=>obtain⟨t,u,v,e⟩:=x;exact⟨t,u,v,k _ _ (.inl rfl) e⟩
 |frz ob u ih=>obtain⟨e,q⟩:=x;exact⟨k _ _ (.inl rfl) e,ih q⟩
 |tbl ps=>
  have e:h.get? a=AA {cls:=.none,data:=.fields ps}:=x;show h'.get? a=AA {cls:=.none,data:=.fields ps};exact k a _ (.inl rfl) e
 |met f y=>
  have e:h.get? a=AA (Hs (.ref f) (.ref y)):=x;show h'.get? a=AA (Hs (.ref f) (.ref y));exact k a _ (.inl rfl) e
 |ext φ=>obtain⟨p,⟨o,e⟩,st⟩:=x;exact⟨st _ _ p λo q=>k _ _ (.inl rfl) q,⟨o,k _ _ (.inl rfl) e⟩,st⟩
theorem HOk.lt(x:HOk P w H h)(e:H a=AA o):a<h.objs.size:=(x a o e).lt
def HOk.fresh(x:HOk P w H h)(e:h.objs.size<=a):H a=AE:=by
 cases q:H a with
 |none=>rfl
 |some u=>exact absurd (Al (x.lt q) e) (DC _)
def HOk.kept(x:HOk P w H h)(k:∀b u,h.get? b=AA u->h'.get? b=AA u):HOk P w H h':=λa o e=>
 (x a o e).stay (λb u _ q=>k b u q) (λ_ q=>q) λ_ _ q=>q
def HOk.laid(x:HOk P w H h)(k:∀b u,h.get? b=AA u->h'.get? b=AA u)(hp:h.objs.size<=a)(new:l9 P w (upd H a o) h' a o):HOk P w (upd H a o) h':=λb u e=>by
 have hn:=x.fresh hp
 by_cases hb:b=a
 ·subst hb;rw[o9]at e;cases e;exact new
 ·rw[i7 hb]at e;exact(x b u e).stay (λc v _ q=>k c v q) (λc q=>by rw[i7 (t6 q hn)];exact q) λc xs q=>by rw[i7 (t6 q hn)];exact q
end
noncomputable def Rd(H:Hp)(a:AI)(u:HO):Prop:=H a=AA u∨∃o,H a=AA (.frz o u)
def Rd.ok{u:HO}(r:Rd H a u)(x:HOk P w H h):l9 P w H h a u:=by
 rcases r with r|⟨o,r⟩
 ·exact x a u r
 ·obtain⟨_,q⟩:=x a _ r;exact q
noncomputable def Mut:Option HO->Prop
 |some (.lst _)=>True
 |some (.dK _)=>True
 |some (.dT _)=>True
 |some (.set _ _)=>True
 |some (.ins _ _ _)=>True
 |some (.ext _)=>True
 |_=>False
section
variable {x e:AI} {o':HO}
def HOk.write(ok:HOk P w H h)(mu:Mut (H x))(he:e=x∨H e=AA (.own x))(k:∀b u,b≠e->h.get? b=AA u->h'.get? b=AA u)(heo:∃u,h'.get? e=AA u)
  (new:l9 P w (upd H x o') h' x o'):HOk P w (upd H x o') h':=λb u q=>by
 have nown:∀c y,H c=AA (.own y)->c≠x:=λc y r z=>by subst z;rw[r]at mu;exact mu
 have ntup:∀c xs,H c=AA (.tup xs)->c≠x:=λc xs r z=>by subst z;rw[r]at mu;exact mu
 by_cases hb:b=x
 ·subst hb;rw[o9]at q;cases q;exact new
 ·rw[i7 hb]at q
  by_cases hbe:b=e
  ·have q':H b=AA (.own x):=by
    rcases he with z|z
    ·exact absurd (hbe.trans z) hb
    ·rw[hbe];exact z
   rw[q]at q';cases q';obtain⟨v,hv⟩:=heo;exact⟨v,by rw[hbe];exact hv⟩
  ·refine(ok b u q).stay (λc v hc r=>k c v ?_ r) (λc r=>by rw[i7 (nown c b r)];exact r) λc xs r=>by rw[i7 (ntup c xs r)];exact r
   rcases hc with rfl|hc
   ·exact hbe
   ·rintro rfl
    rcases he with z|z
    ·exact nown c b hc z
    ·rw[hc]at z;cases z;exact hb rfl
end
structure Un(fs ex:List AI)(H H':Hp)(h h':BC):Prop where
 keep:∀b o,h.get? b=AA o->H b=AE->b∉fs->b∉ex->h'.get? b=AA o
 slot:∀b o,h.get? b=AA o->H b=AE->b∈fs->b∉ex->∃sl,h'.get? b=AA {o with slots:=sl}
 free:∀b o,h.get? b=AA o->H b=AE->b∉ex->H' b=AE
 there:∀b o,h.get? b=AA o->b∉ex->∃o',h'.get? b=AA o'
 tups:∀b xs,H b=AA (.tup xs)->H' b=AA (.tup xs)
 frzs:∀b o u,H b=AA (.frz o u)->H' b=AA (.frz o u)
 tbls:∀b ps,H b=AA (.tbl ps)->∃more,H' b=AA (.tbl (ps++more))
section
variable {fs fs' ex ex':List AI} {H1 H2:Hp} {h1 h2:BC} {x e:AI} 
def Un.any(u:Un fs ex H H1 h h1){ob:Obj}(q:h.get? b=AA ob)(n:H b=AE)(hx:b∉ex):∃sl,h1.get? b=AA {ob with slots:=sl}:=by
 by_cases hb:b∈fs
 ·exact u.slot b ob q n hb hx
 ·exact⟨ob.slots,u.keep b ob q n hb hx⟩
def Un.kept(k:∀b u,h.get? b=AA u->h'.get? b=AA u):Un fs ex H H h h':=
 ⟨λb ob q _ _ _=>k b ob q,λb ob q _ _ _=>⟨ob.slots,k b ob q⟩,λ_ _ _ n _=>n,λb ob q _=>⟨ob,k b ob q⟩,λ_ _ q=>q,λ_ _ _ q=>q,λ_ ps q=>⟨#[],by rw[q];simp⟩⟩
def Un.refl:Un fs ex H H h h:=Un.kept λ_ _ q=>q
def Un.laid(k:∀b u,h.get? b=AA u->h'.get? b=AA u)(hp:h.objs.size<=a)(hn:H a=AE):Un fs ex H (upd H a o) h h' where
 keep:=λb u q _ _ _=>k b u q
 slot:=λb u q _ _ _=>⟨u.slots,k b u q⟩
 free:=λb u q n _=>by rw[i7 (BJ (Al (Au q) hp))];exact n
 there:=λb u q _=>⟨u,k b u q⟩
 tups:=λb xs q=>by rw[i7 (t6 q hn)];exact q
 frzs:=λb u xs q=>by rw[i7 (t6 q hn)];exact q
 tbls:=λb ps q=>⟨#[],by rw[i7 (t6 q hn),q];simp⟩
def Un.write(mu:Mut (H x))(he:e=x∨H e=AA (.own x))(k:∀b u,b≠e->h.get? b=AA u->h'.get? b=AA u)(heo:∃u,h'.get? e=AA u):Un fs ex H (upd H x o) h h':=by
 have hx:∀b,H b=AE->b≠x:=λb n z=>by subst z;rw[n]at mu;exact mu
 have hb:∀b,H b=AE->b≠e:=λb n z=>by
  subst z
  rcases he with r|r
  ·exact hx b n r
  ·rw[n]at r;cases r
 have hm:∀b u,H b=AA u->¬Mut (AA u)->b≠x:=λb u q nm z=>by subst z;rw[q]at mu;exact nm mu
 refine⟨λb u q n _ _=>k b u (hb b n) q,λb u q n _ _=>⟨u.slots,k b u (hb b n) q⟩,λb u q n _=>by rw[i7 (hx b n)];exact n,λb u q _=>?_,
  λb xs q=>by rw[i7 (hm b _ q λz=>z)];exact q,λb u xs q=>by rw[i7 (hm b _ q λz=>z)];exact q,λb ps q=>⟨#[],by rw[i7 (hm b _ q λz=>z),q];simp⟩⟩
 by_cases hbe:b=e
 ·subst hbe;exact heo
 ·exact⟨u,k b u hbe q⟩
end
noncomputable def trk(h:BC)(H:Hp):List AI:=(Cs h.objs.size).filter λa=>(H a).isSome
noncomputable def G1(h:BC)(H:Hp):BC:=W.hideAll h (trk h H)
def b32(h:BC)(H:Hp):(G1 h H).objs.size=h.objs.size:=W.hideAll_size _ _
def cb2{o:Obj}(e:h.get? b=AA o)(n:H b=AE):(G1 h H).get? b=AA o:=
 W.hideAll_get _ e λhm=>by
  have q:(H b).isSome=AC:=(mem_filter.mp hm).2;rw[n]at q;simp at q
def cm2{o:Obj}(e:(G1 h H).get? b=AA o):h.get? b=AA o∧H b=AE:=by
 have e':h.get? b=AA o:=W.of_hideAll (trk h H) e;refine⟨e',?_⟩;cases q:H b with
 |none=>rfl
 |some x=>
  have hm:b∈trk h H:=mem_filter.mpr ⟨Iq.mpr (Au e'),by simp[q]⟩;have z:(G1 h H).get? b=AE:=W.hideAll_none (trk h H) hm;rw[z]at e;cases e
noncomputable def ch0(g h:BC)(L:AI):List (AI×Obj):=(Cs h.objs.size).filterMap λa=>if a=L∨(g.get? a).isSome=AC then AE else(h.get? a).map λo=>(a,o)
noncomputable def i5(g h:BC)(L d:AI):List (AI×Obj):=(ch0 g h L).filter λp=>AB (p.1≠d)
end L2
namespace L2
open PySem PySem.Spec PyProof.Rows
variable{x:Str}{i:Nat}
structure Mod(K:AO)(mg:Str->Option AF)(base:BC):Prop where
 kin:K.In base
 glob:base.Ns AN mg
 blt:∃mb,base.Ns Ck mb∧∀x:Str,x≠"__name__"->mb x=BA x
 nolimit:base.NoLimit
structure Cx where
 prog:Ai
 w:Ax
 K:AO
 mg:Str->Option AF
 base:BC
 A:BL
 N:List Str
 s₀:AJ
 H₀:Hp
 env:Env
 outer:List Env
 stack:List Env
 ex:List AI
 fn:Str->Bool
 calm:Bool
 pn:List (AI×Obj)
 xe:AF->AJ->Prop
 ow:Str->Bool:=λ_=>AG
noncomputable def frs(l:List Env):List AI:=l.filterMap (·.frame)
noncomputable abbrev Cx.fs(X:Cx):List AI:=frs X.outer
noncomputable def Vis(sc:BH)(x:Str):Prop:=sc.names.lookup x=AA .local∨sc.names.lookup x=AA .cell∨sc.names.lookup x=AA .free
noncomputable def Loc(sc:BH)(x:Str):Prop:=sc.names.lookup x=AA .local∨sc.names.lookup x=AA .cell
noncomputable def c45(env:Env)(h:BC)(m:Str->Option AF)(x:Str)(u:AF):Prop:=
 (env.kindOf x=AA .local∧m x=AA u)∨((env.kindOf x=AA .cell∨env.kindOf x=AA .free)∧∃c,env.cells.lookup x=AA c∧h.IsCell c (AA u))
structure Cx.Ok(X:Cx):Prop where
 mod:Mod X.K X.mg X.base
 kind:X.env.scope.kind=.function
 glob:X.env.globals=AN
 blt:X.env.builtins=Ck
 above:X.s₀.heap.objs.size<=X.env.locals
 inj:∀x y c,X.env.cells.lookup x=AA c->X.env.cells.lookup y=AA c->x=y
 has:∀x,(X.env.kindOf x=AA .cell∨X.env.kindOf x=AA .free)->∃c,X.env.cells.lookup x=AA c
 cab:∀x c,X.fn x=AC∨X.ow x=AC->X.env.cells.lookup x=AA c->X.s₀.heap.objs.size<=c
 hd:X.calm=AC->X.A.handled=AE
 frames:X.A.frames=AA X.stack
 stk:X.stack=X.outer∨(X.stack=X.env::X.outer∧X.env.frame=AA X.env.locals)
 exf:∀b∈X.ex,b≠X.env.locals∧∀x c,X.env.cells.lookup x=AA c->c≠b
 bs:∀b o,X.base.get? b=AA o->X.s₀.heap.get? b=AA o∧X.H₀ b=AE
 bsz:X.base.objs.size<=X.s₀.heap.objs.size
 noex:∀b o,X.base.get? b=AA o->b∉X.ex
 exfs:∀b∈X.ex,b∉X.fs
 funs:X.s₀.heap.FunFrames X.base X.outer
 frf:∀b∈X.fs,X.H₀ b=AE
structure Inv(X:Cx)(pins:List (AI×Obj))(σ:List (Option V))(H:Hp)(s:AJ):Prop where
 ok:X.Ok
 os:s.os=X.s₀.os
 bare:GF s.gens
 base:Un X.fs X.ex X.H₀ H X.s₀.heap s.heap
 loc:∃m,s.heap.Ns X.env.locals m∧∀(i:Nat)(x:Str)(v:V),X.N[i]?=AA x->σ[i]?=AA (AA v)->Vis X.env.scope x->∃u,f9 v u∧c45 X.env s.heap m x u
 cell:∀x c,X.env.cells.lookup x=AA c->∃v,s.heap.IsCell c v
 free:H X.env.locals=AE
 freeC:∀x c,X.env.cells.lookup x=AA c->H c=AE∨(X.fn x=AG∧∃o u,H c=AA (.frz o u))
 pin:∀p∈X.pn++pins,s.heap.get? p.1=AA p.2∧H p.1=AE∧p.1≠X.env.locals∧p.1∉X.fs∧∀v,p.2.data≠.cell v
 hok:HOk X.prog X.w H s.heap
 len:σ.length=X.N.length
section
variable {X:Cx} {pins:List (AI×Obj)} {σ:List (Option V)} {H H':Hp} {s:AJ} {h':BC}
def Cx.Ok.nofr(ok:X.Ok){b:AI}{o:Obj}(e:X.base.get? b=AA o):b∉X.fs:=λhb=>by
 have:=(ok.funs.mem hb).1;rw[e]at this;cases this
theorem Inv.bs(I:Inv X pins σ H s):∀b o,X.base.get? b=AA o->s.heap.get? b=AA o∧H b=AE:=λb o e=>
 ⟨I.base.keep b o (I.ok.bs b o e).1 (I.ok.bs b o e).2 (I.ok.nofr e) (I.ok.noex b o e),I.base.free b o (I.ok.bs b o e).1 (I.ok.bs b o e).2 (I.ok.noex b o e)⟩
def Inv.bk(I:Inv X pins σ H s):∀b o,X.base.get? b=AA o->s.heap.get? b=AA o:=λb o e=>(I.bs b o e).1
theorem Inv.mod(I:Inv X pins σ H s):Mod X.K X.mg X.base:=I.ok.mod
def Inv.kIn(I:Inv X pins σ H s):X.K.In s.heap:=I.ok.mod.kin.keeps I.bk
theorem Inv.lt(I:Inv X pins σ H s):X.env.locals<s.heap.objs.size:=let⟨_,hn,_⟩:=I.loc;hn.lt
def Inv.sz(I:Inv X pins σ H s):X.s₀.heap.objs.size<=s.heap.objs.size:=BF I.ok.above (GH I.lt)
def Inv.nofs(I:Inv X pins σ H s){a:AI}(h:s.heap.objs.size<=a):a∉X.fs:=λhb=>by
 obtain⟨_,o,ho,_⟩:=I.ok.funs.mem hb;exact absurd (Al (Au ho) (BF I.sz h)) (DC _)
def Inv.cne(I:Inv X pins σ H s):∀x c,X.env.cells.lookup x=AA c->c≠X.env.locals:=λx c e z=>by
 obtain⟨v,o,ho,hd⟩:=I.cell x c e;obtain⟨m,⟨o',es,ep,ho',hd',_⟩,_⟩:=I.loc;rw[z,ho']at ho;cases ho;rw[hd']at hd;cases hd
theorem Inv.funs(I:Inv X pins σ H s):s.heap.FunFrames X.base X.outer:=by
 have all:∀(l:List Env),(∀b∈frs l,b∈X.fs)->X.s₀.heap.FunFrames X.base l->s.heap.FunFrames X.base l:=by
  intro l
  induction l with
  |nil=>intro _ _;trivial
  |cons env r ih=>
   intro hs hl;obtain⟨hk,⟨L,o,hf,hn,ho,hd⟩,hr⟩:=hl;have hL:L∈X.fs:=hs L (by unfold frs;rw[DG,hf];exact Br);obtain⟨sl,e⟩:=I.base.slot L o ho (I.ok.frf L hL) hL λz=>I.ok.exfs L z hL;exact⟨hk,⟨L,_,hf,hn,e,hd⟩,ih (λb hb=>hs b (by unfold frs;rw[DG,hf];exact Ao _ hb)) hr⟩
 exact all X.outer (λ_ hb=>hb) I.ok.funs
theorem Inv.stack(I:Inv X pins σ H s):s.heap.FunFrames X.base X.stack:=by
 rcases I.ok.stk with e|⟨e,hf⟩
 ·rw[e];exact I.funs
 ·rw[e];obtain⟨m,hn,_⟩:=I.loc;refine .cons (by rw[I.ok.kind];decide) hf hn ?_ I.funs;exact Heap.get?_none_of_le (BF I.ok.bsz I.ok.above)
def Inv.stkSub(I:Inv X pins σ H s):∀b∈frs X.stack,b∈X.env.locals::X.fs:=λb hb=>by
 rcases I.ok.stk with e|⟨e,hf⟩
 ·rw[e]at hb;exact Ao _ hb
 ·rw[e]at hb;unfold frs at hb;rw[DG,hf]at hb;exact hb
def Inv.stkFree(I:Inv X pins σ H s):∀b∈frs X.stack,H b=AE:=λb hb=>by
 rcases AM.mp (I.stkSub b hb)with e|hb
 ·rw[e];exact I.free
 ·obtain⟨_,o,ho,_⟩:=I.ok.funs.mem hb;exact I.base.free b o ho (I.ok.frf b hb) λz=>I.ok.exfs b z hb
def Inv.step{g':Array GenState}{t':Nat}{d':Drawn}{ch:List AI}(I:Inv X pins σ H s)
  (hch:∀b∈ch,(b∈X.ex∨X.s₀.heap.objs.size<=b)∧b≠X.env.locals∧(∀x c,X.env.cells.lookup x=AA c->c≠b)∧∀p∈X.pn++pins,p.1≠b)
  (keep:∀b o,b≠X.env.locals->b∉X.fs->b∉ch->s.heap.get? b=AA o->H b=AE->h'.get? b=AA o)
  (slot:∀b o,b≠X.env.locals->b∈X.fs->b∉ch->s.heap.get? b=AA o->H b=AE->∃sl,h'.get? b=AA {o with slots:=sl}) (free:∀b o,b∉ch->s.heap.get? b=AA o->H b=AE->H' b=AE)
  (there:∀b o,b∉ch->s.heap.get? b=AA o->∃o',h'.get? b=AA o')
  (tups:∀b xs,H b=AA (.tup xs)->H' b=AA (.tup xs)) (frzs:∀b o u,H b=AA (.frz o u)->H' b=AA (.frz o u)) (tbls:∀b ps,H b=AA (.tbl ps)->∃more,H' b=AA (.tbl (ps++more)))
  (ns:∀m,s.heap.Ns X.env.locals m->h'.Ns X.env.locals m) (hok:HOk X.prog X.w H' h') (hg:GF g') :
  Inv X pins σ H' {s with heap:=h',gens:=g',drawn:=d',toks:=t'}:=by
 have neL:∀b o,X.s₀.heap.get? b=AA o->b≠X.env.locals:=λb o e=>BJ (Al (Au e) I.ok.above);have neC:∀b o,X.s₀.heap.get? b=AA o->b∉X.ex->b∉ch:=λb o e hx hb=>by
  rcases(hch b hb).1 with z|z
  ·exact hx z
  ·exact absurd (Al (Au e) z) (DC _)
 have cellK:∀x c,X.env.cells.lookup x=AA c->∀v,s.heap.IsCell c v->h'.IsCell c v:=λx c e v⟨o,ho,hd⟩=>by
  have nch:c∉ch:=λz=>(hch c z).2.2.1 x c e rfl
  rcases I.freeC x c e with hfr|⟨_,oz,uz,hz⟩
  ·by_cases hc:c∈X.fs
   ·obtain⟨sl,q⟩:=slot c o (I.cne x c e) hc nch ho hfr;exact⟨_,q,hd⟩
   ·exact⟨o,keep c o (I.cne x c e) hc nch ho hfr,hd⟩
  ·obtain⟨h1,_⟩:=I.hok c _ hz;obtain⟨h2,_⟩:=hok c _ (frzs c oz uz hz);rw[h1]at ho;cases ho;exact⟨_,h2,hd⟩
 refine⟨I.ok,I.os,hg,⟨λb o e n hb hx=>?_,λb o e n hb hx=>?_,λb o e n hx=>?_,λb o e hx=>?_,λb xs e=>tups b xs (I.base.tups b xs e),λb o xs e=>frzs b o xs (I.base.frzs b o xs e),λb ps e=>?_⟩,?_,λx c e=>?_,?_,λx c e=>?_,λp hp=>?_,hok,I.len⟩
 ·exact keep b o (neL b o e) hb (neC b o e hx) (I.base.keep b o e n hb hx) (I.base.free b o e n hx)
 ·obtain⟨sl,e1⟩:=I.base.slot b o e n hb hx;obtain⟨sl',e2⟩:=slot b _ (neL b o e) hb (neC b o e hx) e1 (I.base.free b o e n hx);exact⟨sl',e2⟩
 ·obtain⟨o',e1⟩:=I.base.there b o e hx;exact free b o' (neC b o e hx) e1 (I.base.free b o e n hx)
 ·obtain⟨o',e1⟩:=I.base.there b o e hx;exact there b o' (neC b o e hx) e1
 ·obtain⟨m1,e1⟩:=I.base.tbls b ps e;obtain⟨m2,e2⟩:=tbls b _ e1;exact⟨m1++m2,by rw[e2,Array.append_assoc]⟩
 ·obtain⟨m,hn,hl⟩:=I.loc;refine⟨m,ns m hn,λi x v e1 e2 e3=>?_⟩;obtain⟨u,r,l⟩:=hl i x v e1 e2 e3;refine⟨u,r,?_⟩
  rcases l with l|⟨k,c,e,z⟩
  ·exact .inl l
  ·exact .inr ⟨k,c,e,cellK x c e _ z⟩
 ·obtain⟨v,z⟩:=I.cell x c e;exact⟨v,cellK x c e v z⟩
 ·obtain⟨m,⟨o,_,_,ho,_⟩,_⟩:=I.loc;exact free _ o (λz=>(hch _ z).2.1 rfl) ho I.free
 ·obtain⟨v,o,ho,hd⟩:=I.cell x c e
  rcases I.freeC x c e with hfr|⟨hfn,oz,uz,hz⟩
  ·exact .inl (free c o (λz=>(hch c z).2.2.1 x c e rfl) ho hfr)
  ·exact .inr ⟨hfn,oz,uz,frzs c oz uz hz⟩
 ·obtain⟨e,n,ne,nf,d⟩:=I.pin p hp;have nch:p.1∉ch:=λz=>(hch p.1 z).2.2.2 p hp rfl;exact⟨keep p.1 p.2 ne nf nch e n,free p.1 p.2 nch e n,ne,nf,d⟩
def Inv.un{t':Nat}(I:Inv X pins σ H s)(u:Un X.fs [] H H' s.heap h')(hok:HOk X.prog X.w H' h'):Inv X pins σ H' {s with heap:=h',toks:=t'}:=by
 obtain⟨m,⟨o,es,ep,ho,r⟩,_⟩:=id I.loc;obtain⟨sl,hL⟩:=u.any ho I.free (by simp);exact I.step (g':=s.gens) (d':=s.drawn) (ch:=[]) (λ_ z=>nomatch z) (λb o _ hb _ e n=>u.keep b o e n hb (by simp)) (λb o _ hb _ e n=>u.slot b o e n hb (by simp)) (λb o _ e n=>u.free b o e n (by simp)) (λb o _ e=>u.there b o e (by simp)) u.tups u.frzs u.tbls (λm' hm=>by
  obtain⟨o',es',ep',ho',r'⟩:=hm;rw[ho]at ho';cases ho';exact⟨_,es',ep',hL,r'⟩) hok I.bare
def Inv.call{g':Array GenState}{t':Nat}{d':Drawn}{ch:List AI}(I:Inv X pins σ H s)(u:Un (frs X.stack) ch H H' s.heap h')(hok:HOk X.prog X.w H' h')(hg:GF g')
  (hch:∀b∈ch,(b∈X.ex∨X.s₀.heap.objs.size<=b)∧b≠X.env.locals∧(∀x c,X.env.cells.lookup x=AA c->c≠b)∧∀p∈X.pn++pins,p.1≠b) :
  Inv X pins σ H' {s with heap:=h',gens:=g',drawn:=d',toks:=t'}:=by
 obtain⟨m,⟨o,es,ep,ho,r⟩,_⟩:=id I.loc;obtain⟨sl,hL⟩:=u.any ho I.free λz=>(hch _ z).2.1 rfl;exact I.step (ch:=ch) hch (λb o hL hb hc e n=>u.keep b o e n (λz=>(AM.mp (I.stkSub b z)).elim hL hb) hc) (λb o _ _ hc e n=>u.any e n hc) (λb o hc e n=>u.free b o e n hc) (λb o hc e=>u.there b o e hc) u.tups u.frzs u.tbls (λm' hm=>by
  obtain⟨o',es',ep',ho',r'⟩:=hm;rw[ho]at ho';cases ho';exact⟨_,es',ep',hL,r'⟩) hok hg
def Inv.turned{t':Nat}{it:AI}(I:Inv X pins σ H s)(k:∀b o,b≠it->s.heap.get? b=AA o->h'.get? b=AA o)(hn:H it=AE)(hL:it≠X.env.locals)
  (h1:it∈X.ex∨X.s₀.heap.objs.size<=it) (h2:∀x c,X.env.cells.lookup x=AA c->c≠it) (h3:∀p∈X.pn++pins,p.1≠it):Inv X pins σ H {s with heap:=h',toks:=t'}:=by
 have nit:∀b u,H b=AA u->b≠it:=λb u e z=>by rw[z,hn]at e;cases e
 refine I.step (g':=s.gens) (d':=s.drawn) (ch:=[it]) (λb hb=>?_) (λb o _ _ hc e _=>k b o (λz=>hc (by simp[z])) e) (λb o _ _ hc e _=>⟨o.slots,k b o (λz=>hc (by simp[z])) e⟩) (λ_ _ _ _ n=>n)
  (λb o hc e=>⟨o,k b o (λz=>hc (by simp[z])) e⟩) (λ_ _ e=>e) (λ_ _ _ e=>e) (λb ps e=>⟨#[],by rw[e];simp⟩) (λm hm=>?_) (λb u e=>?_) I.bare
 ·have e:b=it:=by simpa using hb
  subst e;exact⟨h1,hL,h2,h3⟩
 ·obtain⟨o,es,ep,ho,r⟩:=hm;exact⟨o,es,ep,k _ o (Av hL) ho,r⟩
 ·refine(I.hok b u e).stay (λc v hc q=>k c v ?_ q) (λ_ q=>q) λ_ _ q=>q
  rcases hc with z|z
  ·rw[z];exact nit b u e
  ·exact nit c _ z
def Inv.tok(I:Inv X pins σ H s)(t:Nat):Inv X pins σ H {s with toks:=t}:=I.un (h':=s.heap) (t':=t) Un.refl I.hok
theorem Inv.kept{t':Nat}(I:Inv X pins σ H s)(k:∀b u,s.heap.get? b=AA u->h'.get? b=AA u):Inv X pins σ H {s with heap:=h',toks:=t'}:=I.un (Un.kept k) (I.hok.kept k)
theorem Inv.laid{a:AI}{o:HO}{t':Nat}(I:Inv X pins σ H s)(k:∀b u,s.heap.get? b=AA u->h'.get? b=AA u)(hp:s.heap.objs.size<=a)(new:l9 X.prog X.w (upd H a o) h' a o):
  Inv X pins σ (upd H a o) {s with heap:=h',toks:=t'}:=I.un (Un.laid k hp (I.hok.fresh hp)) (I.hok.laid k hp new)
theorem Inv.write{x e:AI}{o:HO}{t':Nat}(I:Inv X pins σ H s)(mu:Mut (H x))(he:e=x∨H e=AA (.own x))(k:∀b u,b≠e->s.heap.get? b=AA u->h'.get? b=AA u)(heo:∃u,h'.get? e=AA u)
  (new:l9 X.prog X.w (upd H x o) h' x o):Inv X pins σ (upd H x o) {s with heap:=h',toks:=t'}:=I.un (Un.write mu he k heo) (I.hok.write mu he k heo new)
def Inv.pins_of{pins':List (AI×Obj)}(I:Inv X pins σ H s)(h:∀p∈pins',s.heap.get? p.1=AA p.2∧H p.1=AE∧p.1≠X.env.locals∧p.1∉X.fs∧∀v,p.2.data≠.cell v):Inv X pins' σ H s:=
 ⟨I.ok,I.os,I.bare,I.base,I.loc,I.cell,I.free,I.freeC,λp hp=>(Bc.mp hp).elim (λz=>I.pin p (Dk _ z)) (h p),I.hok,I.len⟩
def az7{N:List Str}(hN:N.Nodup){j:Nat}(a:N[i]?=AA x)(b:N[j]?=AA x):i=j:=by
 obtain⟨h1,e1⟩:=AR.mp a;obtain⟨h2,e2⟩:=AR.mp b;exact(List.getElem_inj hN).mp (e1.trans e2.symm)
def b33{M:Model}{A:BL}{E:AF->AJ->Prop}{v:V}{u:AF}{Q:Unit->AJ->Prop}(I:Inv X pins σ H s)(hN:X.N.Nodup)(hi:X.N[i]?=AA x)(hx:Loc X.env.scope x)(r:f9 v u)
  (h:∀s',Inv X pins (σ.set i (AA v)) H s'->(∃a,Az a s.heap s'.heap∧(a=X.env.locals∨X.env.cells.lookup x=AA a))->Q () s') (hf:X.fn x=AC∨X.env.scope.names.lookup x=AA .local:=by first|exact .inl rfl|exact .inr rfl|assumption):AT M A (storeName X.env x u) Q E s:=by
 obtain⟨m,hn,hl⟩:=id I.loc;have hcls:(X.env.scope.kind==.class||(X.env.scope.kind==.module&&X.env.locals != X.env.globals))=AG:=by rw[I.ok.kind];rfl
 have hiσ:i<σ.length:=by rw[I.len];exact(AR.mp hi).1
 have cne:=I.cne;have tracked:∀{a:AI}{h':BC},(∃o,s.heap.get? a=AA o∧H a=AE)->Az a s.heap h'->HOk X.prog X.w H h':=λ{a h'}ha hs b ob e=>by
  obtain⟨_,_,hfree⟩:=ha;refine(I.hok b ob e).stay (λc w' hc q=>(hs.2 c ?_).trans q) (λ_ q=>q) λ_ _ q=>q;rintro rfl
  rcases hc with rfl|hc
  ·rw[hfree]at e;cases e
  ·rw[hfree]at hc;cases hc
 rcases hx with hk|hk
 ·refine wpAny_storeName_local hk hn (λh' hn' hs=>?_) hcls;obtain⟨oL,_,_,hoL,_⟩:=id hn;refine h _ ⟨I.ok,I.os,I.bare,⟨λb o e n hb hx=>?_,λb o e n hb hx=>?_,I.base.free,λb o e hx=>?_,I.base.tups,I.base.frzs,I.base.tbls⟩,⟨_,hn',λj y v' e1 e2 e3=>?_⟩,λy c e=>?_,I.free,I.freeC,λp hp=>?_,tracked ⟨oL,hoL,I.free⟩ hs,by simpa using I.len⟩ ⟨_,hs,.inl rfl⟩
  ·exact(hs.2 b (BJ (Al (Au e) I.ok.above))).trans (I.base.keep b o e n hb hx)
  ·obtain⟨sl,e1⟩:=I.base.slot b o e n hb hx;exact⟨sl,(hs.2 b (BJ (Al (Au e) I.ok.above))).trans e1⟩
  ·obtain⟨o',e1⟩:=I.base.there b o e hx;exact⟨o',(hs.2 b (BJ (Al (Au e) I.ok.above))).trans e1⟩
  ·by_cases hj:j=i
   ·subst hj;rw[hi]at e1;cases e1;rw[Gq hiσ]at e2;cases e2;exact⟨u,r,.inl ⟨hk,by simp⟩⟩
   ·rw[HS (Av hj)]at e2;obtain⟨u',r',q⟩:=hl j y v' e1 e2 e3;refine⟨u',r',?_⟩
    rcases q with⟨k,e⟩|⟨k,c,e,z⟩
    ·refine .inl ⟨k,?_⟩;have:y≠x:=λe=>hj (az7 hN e1 (e▸hi));simp[this,e]
    ·exact .inr ⟨k,c,e,z.sameBut hs (cne y c e)⟩
  ·obtain⟨w',z⟩:=I.cell y c e;exact⟨w',z.sameBut hs (cne y c e)⟩
  ·obtain⟨e,n,ne,nf,d⟩:=I.pin p hp;exact⟨(hs.2 p.1 ne).trans e,n,ne,nf,d⟩
 ·have hfn:X.fn x=AC:=by
   rcases hf with z|z
   ·exact z
   ·rw[z]at hk;cases hk
  obtain⟨c,hc⟩:=I.ok.has x (.inl hk);obtain⟨w',z⟩:=I.cell x c hc;have hfree:H c=AE:=(I.freeC x c hc).resolve_right λz=>by rw[hfn]at z;exact absurd z.1 (by decide)
  refine wpAny_storeName_cell I.ok.kind hk hc z (λh' hc' hs=>?_);obtain⟨oc,hoc,hocd⟩:=id z;refine h {s with heap:=h'} ⟨I.ok,I.os,I.bare,⟨λb o e n hb hx=>?_,λb o e n hb hx=>?_,I.base.free,λb o e hx=>?_,I.base.tups,I.base.frzs,I.base.tbls⟩,⟨m,hn.sameBut hs (Av (cne x c hc)),λj y v' e1 e2 e3=>?_⟩,λy c' e=>?_,I.free,I.freeC,λp hp=>?_,tracked ⟨oc,hoc,hfree⟩ hs,by simpa using I.len⟩ ⟨c,hs,.inr hc⟩
  ·exact(hs.2 b (BJ (Al (Au e) (I.ok.cab x c (.inl hfn) hc)))).trans (I.base.keep b o e n hb hx)
  ·obtain⟨sl,e1⟩:=I.base.slot b o e n hb hx;exact⟨sl,(hs.2 b (BJ (Al (Au e) (I.ok.cab x c (.inl hfn) hc)))).trans e1⟩
  ·obtain⟨o',e1⟩:=I.base.there b o e hx;exact⟨o',(hs.2 b (BJ (Al (Au e) (I.ok.cab x c (.inl hfn) hc)))).trans e1⟩
  ·by_cases hj:j=i
   ·subst hj;rw[hi]at e1;cases e1;rw[Gq hiσ]at e2;cases e2;exact⟨u,r,.inr ⟨.inl hk,c,hc,hc'⟩⟩
   ·rw[HS (Av hj)]at e2;obtain⟨u',r',q⟩:=hl j y v' e1 e2 e3;refine⟨u',r',?_⟩
    rcases q with q|⟨k,c',e,z'⟩
    ·exact .inl q
    ·refine .inr ⟨k,c',e,z'.sameBut hs ?_⟩;rintro rfl;exact hj (az7 hN e1 (I.ok.inj _ _ _ e hc▸hi))
  ·by_cases hcc:c'=c
   ·subst hcc;exact⟨_,hc'⟩
   ·obtain⟨w2,z2⟩:=I.cell y c' e;exact⟨w2,z2.sameBut hs hcc⟩
  ·obtain⟨e,n,ne,nf,d⟩:=I.pin p hp;refine⟨(hs.2 p.1 ?_).trans e,n,ne,nf,d⟩;intro q;rw[q,hoc]at e;have q':oc=p.2:=Ar e;exact d w' (by rw[<-q'];exact hocd)
def Y7{M:Model}{A:BL}{E:AF->AJ->Prop}{v:V}{u:AF}{Q:Unit->AJ->Prop}(I:Inv X pins σ H s)(hN:X.N.Nodup)(hi:X.N[i]?=AA x)(hx:Loc X.env.scope x)(r:f9 v u)
  (h:∀s',Inv X pins (σ.set i (AA v)) H s'->Q () s') (hf:X.fn x=AC∨X.env.scope.names.lookup x=AA .local:=by first|exact .inl rfl|exact .inr rfl|assumption):AT M A (storeName X.env x u) Q E s:=
 b33 I hN hi hx r (λs' I' _=>h s' I') hf
end
noncomputable abbrev XK:=AF->Option AI->Hp->Prop
noncomputable abbrev St:=List (Option V)
noncomputable abbrev VK:=V->Hp->Prop
noncomputable abbrev TE:=St->Hp->VK->Prop
noncomputable abbrev TT:=St->Hp->(Bool->Hp->Prop)->Prop
noncomputable abbrev TA:=St->Hp->(List V->Hp->Prop)->Prop
structure Ends where
 nx:St->Hp->Prop
 rt:VK
 bk:St->Hp->Prop:=λ_ _=>False
 ct:St->Hp->Prop:=λ_ _=>False
noncomputable abbrev TS:=Ends->St->Hp->Prop
noncomputable def EP(X:Cx)(pins:List (AI×Obj))(σ:St)(Q:VK)(u:AF)(s':AJ):Prop:=∃v H',Inv X pins σ H' s'∧f9 v u∧Q v H'
noncomputable def TP(X:Cx)(pins:List (AI×Obj))(σ:St)(Q:Bool->Hp->Prop)(b:Bool)(s':AJ):Prop:=∃H',Inv X pins σ H' s'∧Q b H'
noncomputable def AP(X:Cx)(pins:List (AI×Obj))(σ:St)(Q:List V->Hp->Prop)(us:List AF)(s':AJ):Prop:=∃vs H',Inv X pins σ H' s'∧f7 vs us∧Q vs H'
noncomputable def SP(X:Cx)(pins:List (AI×Obj))(D:Ends)(f:Flow)(s':AJ):Prop:=
 match f with
 |.next=>∃σ' H',Inv X pins σ' H' s'∧D.nx σ' H'
 |.brk=>∃σ' H',Inv X pins σ' H' s'∧D.bk σ' H'
 |.cont=>∃σ' H',Inv X pins σ' H' s'∧D.ct σ' H'
 |.ret u=>∃v σ' H',Inv X pins σ' H' s'∧f9 v u∧D.rt v H'
noncomputable def PE(X:Cx)(e:AS)(t:TE):Prop:=
 ∀(pins:List (AI×Obj))(s:AJ)(σ:St)(H:Hp)(Q:VK),Inv X pins σ H s->t σ H Q->AT (model X.prog X.w) X.A (eval e X.env) (EP X pins σ Q) X.xe s
noncomputable def PT(X:Cx)(e:AS)(t:TT):Prop:=
 ∀(pins:List (AI×Obj))(s:AJ)(σ:St)(H:Hp)(Q:Bool->Hp->Prop),Inv X pins σ H s->t σ H Q->AT (model X.prog X.w) X.A (HK e X.env (eval e X.env)) (TP X pins σ Q) X.xe s
noncomputable def PW(X:Cx)(e:AS)(t:TT):Prop:=
 ∀(whole:Sem AF)(pins:List (AI×Obj))(s:AJ)(σ:St)(H:Hp)(Q:Bool->Hp->Prop),Inv X pins σ H s->t σ H Q->AT (model X.prog X.w) X.A (HK e X.env whole) (TP X pins σ Q) X.xe s
def PW.pt{X:Cx}{e:AS}{t:TT}(h:PW X e t):PT X e t:=h _
noncomputable def PA(X:Cx)(es:List AS)(t:TA):Prop:=
 ∀(pos:Pos)(pins:List (AI×Obj))(s:AJ)(σ:St)(H:Hp)(Q:List V->Hp->Prop),Inv X pins σ H s->t σ H Q->AT (model X.prog X.w) X.A (spliced (Bm pos (Ak es X.env))) (AP X pins σ Q) X.xe s
noncomputable def PS(X:Cx)(st:BR)(t:TS):Prop:=
 ∀(pins:List (AI×Obj))(s:AJ)(σ:St)(H:Hp)(D:Ends),Inv X pins σ H s->t D σ H->AT (model X.prog X.w) X.A (exec st X.env) (SP X pins D) X.xe s
noncomputable def PSs(X:Cx)(st:List BR)(t:TS):Prop:=
 ∀(pins:List (AI×Obj))(s:AJ)(σ:St)(H:Hp)(D:Ends),Inv X pins σ H s->t D σ H->AT (model X.prog X.w) X.A (execs st X.env) (SP X pins D) X.xe s
def thn{α:Type}{t:Sem α}{Q Q':α->AJ->Prop}{M:Model}{A:BL}{E:AF->AJ->Prop}{s:AJ}(h:AT M A t Q E s)(hQ:∀a s,Q a s->Q' a s):AT M A t Q' E s:=Bd h hQ λ_ _ x=>x
end L2
namespace L2
open PySem PySem.Spec PyProof.Rows
variable{pins:List (AI×Obj)}{s:AJ}{σ:St}{H:Hp}{x:Str}{pos:Pos}{u:AF}{op:Dn}
section
variable {X:Cx}
def bin{a b:AS}{ta tb:TE}(ha:PE X a ta)(hb:PE X b tb){R:V->V->Hp->Prop}(I:Inv X pins σ H s)(h:ta σ H λx H1=>tb σ H1 λy H2=>R x y H2)
  {α:Type} {Q:α->AJ->Prop} {f:AF->AF->Sem α}
  (hf:∀v u s2 x y H2,Inv X pins σ H2 s2->f9 x v->f9 y u->R x y H2->AT (model X.prog X.w) X.A (f v u) Q X.xe s2) :
  AT (model X.prog X.w) X.A (eval a X.env) (λv s₁=>AT (model X.prog X.w) X.A (eval b X.env) (λu s₂=>AT (model X.prog X.w) X.A (f v u) Q X.xe s₂) X.xe s₁) X.xe s:=by
 refine thn (ha pins s σ H _ I h) λv s1⟨x,H1,I1,r1,q1⟩=>?_;refine thn (hb pins s1 σ H1 _ I1 q1) λu s2⟨y,H2,I2,r2,q2⟩=>?_;exact hf v u s2 x y H2 I2 r1 r2 q2
noncomputable def c39(i:Nat):TE:=λσ H Q=>∃v,σ[i]?=AA (AA v)∧Q v H
noncomputable def tC(v:V):TE:=λ_ H Q=>Q v H
def an3{i:Nat}(hN:X.N[i]?=AA x)(hv:Vis X.env.scope x)(hd:(x==("__debug__":Str))=AG:=by decide)(hcd:(x==("__classdict__":Str))=AG:=by decide):PE X (.Name x pos) (c39 i):=by
 intro pins s σ H Q I h;obtain⟨v,e,h⟩:=h;obtain⟨m,hn,hl⟩:=I.loc;obtain⟨u,r,l⟩:=hl i x v hN e hv;have fin:EP X pins σ Q u s:=⟨v,H,I,r,h⟩
 rcases l with⟨hk,hm⟩|⟨hk,c,hc,hcell⟩
 ·exact JD (wpAny_loadName_local I.ok.kind hk hn hm fin) hd
 ·rcases hk with hk|hk
  ·exact JD (wpAny_loadName_cell I.ok.kind hk hc hcell fin) hd
  ·exact JD (wpAny_loadName_free I.ok.kind hk hc hcell fin hcd) hd
def cu5{i j pos}:PE X (.Constant (.int i) j pos) (tC (.int i)):=λ_ _ _ H _ I h=>wpAny_Constant_int ⟨.int i,H,I.tok _,⟨_,rfl⟩,h⟩
def cz7{b j pos}:PE X (.Constant (.bool b) j pos) (tC (.bl b)):=λ_ _ _ H _ I h=>Constant_bool ⟨.bl b,H,I,rfl,h⟩
def cn0{j pos}:PE X (.Constant .none j pos) (tC .non):=λ_ _ _ H _ I h=>HZ ⟨.non,H,I,rfl,h⟩
def be0{x j pos}:PE X (.Constant (.str x) j pos) (tC (.str x)):=λ_ _ _ H _ I h=>Calls.Constant_str ⟨.str x,H,I.tok _,⟨_,rfl⟩,h⟩
noncomputable def Gl(X:Cx)(x:Str):Prop:=X.env.kindOf x=AA .globalImplicit
def Q1{E:AF->AJ->Prop}{pos:Pos}{Q:AF->AJ->Prop}(I:Inv X pins σ H s)(hg:Gl X x)(hm:X.mg x=AA u)(h:Q u s)
  (hd:(x==("__debug__":Str))=AG:=by decide):AT (model X.prog X.w) X.A (eval (.Name x pos) X.env) Q E s:=
 GI I.ok.kind hg (Calls.loadGlobal_global (by rw[I.ok.glob];exact I.mod.glob.keeps I.bk) hm h) hd
def F5{E:AF->AJ->Prop}{pos:Pos}{Q:AF->AJ->Prop}(I:Inv X pins σ H s)(hg:Gl X x)(hm:X.mg x=AE)(hv:BA x=AA u)(h:Q u s)
  (hn:x≠"__name__":=by decide) (hd:(x==("__debug__":Str))=AG:=by decide):AT (model X.prog X.w) X.A (eval (.Name x pos) X.env) Q E s:=by
 obtain⟨mb,h1,h2⟩:=I.mod.blt;exact GI I.ok.kind hg (Calls.loadGlobal_builtin (by rw[I.ok.glob];exact I.mod.glob.keeps I.bk) hm (by rw[I.ok.blt];exact h1.keeps I.bk) ((h2 x hn).trans hv) h) hd
def a53{v:V}(hg:Gl X x)(hm:X.mg x=AA u)(r:f9 v u)(hd:(x==("__debug__":Str))=AG:=by decide):PE X (.Name x pos) (tC v):=
 λ_ _ _ H _ I h=>Q1 I hg hm ⟨v,H,I,r,h⟩ hd
def ce0{v:V}(hg:Gl X x)(hm:X.mg x=AE)(hv:BA x=AA u)(r:f9 v u)(hn:x≠"__name__":=by decide)(hd:(x==("__debug__":Str))=AG:=by decide):PE X (.Name x pos) (tC v):=
 λ_ _ _ H _ I h=>F5 I hg hm hv ⟨v,H,I,r,h⟩ hn hd
variable {a b:AS} {ta tb:TE} 
noncomputable def PC(X:Cx)(op:Dn)(a b:AS)(t:TE):Prop:=
 ∀(pins:List (AI×Obj))(s:AJ)(σ:St)(H:Hp)(Q:VK),Inv X pins σ H s->t σ H Q ->
  AT (model X.prog X.w) X.A (eval a X.env) (λv s₁=>AT (model X.prog X.w) X.A (eval b X.env) (λu s₂=>AT (model X.prog X.w) X.A (Bl op v u) (EP X pins σ Q) X.xe s₂) X.xe s₁) X.xe s
def az0(b:AS)(h:op≠.In)(h2:op≠.NotIn):CI op b=AG:=by
 have e1:(op==CmpOp.In)=AG:=by cases op<;>first|rfl|exact absurd rfl h
 have e2:(op==HL)=AG:=by cases op<;>first|rfl|exact absurd rfl h2
 cases b<;>simp[CI,e1,e2]
noncomputable def c35(ta:TE):TE:=λσ H Q=>ta σ H λx H1=>Q (.bl (AB (x=.non))) H1
noncomputable def c11(ta:TE):TE:=λσ H Q=>ta σ H λx H1=>Q (.bl (!decide (x=.non))) H1
def f9.none_iff{x:V}{v:AF}(r:f9 x v):(v==Bf)=AB (x=.non):=by
 cases x with
 |non=>cases r;rfl
 |bl _=>cases r;rfl
 |int _=>obtain⟨t,rfl⟩:=r;rfl
 |str _=>obtain⟨t,rfl⟩:=r;rfl
 |byt _=>obtain⟨t,rfl⟩:=r;rfl
 |flt _=>obtain⟨t,rfl⟩:=r;rfl
 |ref _=>cases r;rfl
 |ty _=>cases r;rfl
def bb2{j pos'}(ha:PE X a ta):PC X .Is a (.Constant .none j pos') (c35 ta):=by
 intro pins s σ H Q I h;refine thn (ha pins s σ H _ I h) λv s1⟨x,H1,I1,r1,q1⟩=>?_;exact HZ (is_none_gen ⟨.bl _,H1,I1,by rw[r1.none_iff];rfl,q1⟩)
def a81{j pos'}(ha:PE X a ta):PC X .IsNot a (.Constant .none j pos') (c11 ta):=by
 intro pins s σ H Q I h;refine thn (ha pins s σ H _ I h) λv s1⟨x,H1,I1,r1,q1⟩=>?_;exact HZ (isnot_none_gen ⟨.bl _,H1,I1,by rw[r1.none_iff];rfl,q1⟩)
noncomputable def tB(t:TE):TT:=λσ H Q=>t σ H λx H1=>∃c,x=.bl c∧Q c H1
def bg8{t:TE}(h:PC X op a b t)(h1:CI op b=AG:=by first|exact az0 _ (by decide) (by decide)|rfl):PE X (.Compare a [op] [b] pos) t:=λpins s σ H Q I hw=>KQ (h pins s σ H Q I hw) h1
def bh3{t:TE}(h:PC X op a b t)(h1:CI op b=AG:=by first|exact az0 _ (by decide) (by decide)|rfl):PT X (.Compare a [op] [b] pos) (tB t):=by
 intro pins s σ H Q I hw;refine IK (thn (h pins s σ H _ I hw) λv s1 h1=>thn h1 λu s2 h2=>thn h2 λc s3⟨x,H1,I1,r1,q1⟩=>?_) h1;obtain⟨d,rfl,q⟩:=q1;cases r1;exact Cd ⟨H1,I1,q⟩
def cp6{e:AS}{t:TE}(h:PE X e t)(he:∀whole,HK e X.env whole=(do let v <-whole;Gr e.pos;holding [v] (truthy v)):=by intro _;rfl):PT X e (tB t):=by
 intro pins s σ H Q I hw;refine isTrue_plain (thn (h pins s σ H _ I hw) λv s1⟨x,H1,I1,r1,q1⟩=>?_) (he _);obtain⟨d,rfl,q⟩:=q1;cases r1;exact Cd ⟨H1,I1,q⟩
variable {tA tB':TT} {i5:List AS}
noncomputable def c61(t u:TT):TT:=λσ H Q=>t σ H λc H1=>if c=AC then u σ H1 Q else Q AG H1
noncomputable def tOr(t u:TT):TT:=λσ H Q=>t σ H λc H1=>if c=AC then Q AC H1 else u σ H1 Q
noncomputable def c32(t:TT):TT:=λσ H Q=>t σ H λc H1=>Q (!c) H1
def cd0(ha:PT X a tA):PW X (.BoolOp .And [a] pos) tA:=by
 intro wh pins s σ H Q I h;refine isTrue_and (thn (ha pins s σ H Q I h) λc s1 e=>?_);cases c with
 |true=>exact isTrue_and_nil e
 |false=>exact e
def cr1(ha:PT X a tA):PW X (.BoolOp .Or [a] pos) tA:=by
 intro wh pins s σ H Q I h;refine isTrue_or (thn (ha pins s σ H Q I h) λc s1 e=>?_);cases c with
 |false=>exact isTrue_or_nil e
 |true=>exact e
def cq7(ha:PT X a tA)(hb:PW X (.BoolOp .And (b::i5) pos) tB'):PW X (.BoolOp .And (a::b::i5) pos) (c61 tA tB'):=by
 intro wh pins s σ H Q I h;refine isTrue_and (thn (ha pins s σ H _ I h) λc s1⟨H1,I1,q1⟩=>?_);cases c with
 |true=>exact hb wh pins s1 σ H1 Q I1 q1
 |false=>exact⟨H1,I1,q1⟩
def c21(ha:PT X a tA)(hb:PW X (.BoolOp .Or (b::i5) pos) tB'):PW X (.BoolOp .Or (a::b::i5) pos) (tOr tA tB'):=by
 intro wh pins s σ H Q I h;refine isTrue_or (thn (ha pins s σ H _ I h) λc s1⟨H1,I1,q1⟩=>?_);cases c with
 |true=>exact⟨H1,I1,q1⟩
 |false=>exact hb wh pins s1 σ H1 Q I1 q1
def co7(ha:PT X a tA):PT X (.UnaryOp .Not a pos) (c32 tA):=by
 intro pins s σ H Q I h;exact isTrue_not (ha pins s σ H (λc H1=>Q (!c) H1) I h)
noncomputable def cx9(ta tb:TE):TE:=λσ H Q=>ta σ H λx H1=>∃c,x=.bl c∧if c=AC then tb σ H1 Q else Q (.bl AG) H1
noncomputable def c40(ta tb:TE):TE:=λσ H Q=>ta σ H λx H1=>∃c,x=.bl c∧if c=AC then Q (.bl AC) H1 else tb σ H1 Q
noncomputable def c15(ta:TE):TE:=λσ H Q=>ta σ H λx H1=>∃c,x=.bl c∧Q (.bl (!c)) H1
def ba8{op}{t:TE}(h:PE X a t):PE X (.BoolOp op [a] pos) t:=λpins s σ H Q I hw=>BoolOp_one (h pins s σ H Q I hw)
def ct8(ha:PE X a ta)(hb:PE X (.BoolOp .And (b::i5) pos) tb):PE X (.BoolOp .And (a::b::i5) pos) (cx9 ta tb):=by
 intro pins s σ H Q I h;refine BoolOp_and (thn (ha pins s σ H _ I h) λv s1⟨x,H1,I1,r1,q1⟩=>?_);obtain⟨c,rfl,q1⟩:=q1;cases r1;refine Cd ?_;cases c with
 |true=>exact hb pins s1 σ H1 Q I1 q1
 |false=>exact⟨.bl AG,H1,I1,rfl,q1⟩
def cy0(ha:PE X a ta)(hb:PE X (.BoolOp .Or (b::i5) pos) tb):PE X (.BoolOp .Or (a::b::i5) pos) (c40 ta tb):=by
 intro pins s σ H Q I h;refine BoolOp_or (thn (ha pins s σ H _ I h) λv s1⟨x,H1,I1,r1,q1⟩=>?_);obtain⟨c,rfl,q1⟩:=q1;cases r1;refine Cd ?_;cases c with
 |false=>exact hb pins s1 σ H1 Q I1 q1
 |true=>exact⟨.bl AC,H1,I1,rfl,q1⟩
def cu1(ha:PE X a ta):PE X (.UnaryOp .Not a pos) (c15 ta):=by
 intro pins s σ H Q I h;refine UnaryOp_ (thn (ha pins s σ H _ I h) λv s1⟨x,H1,I1,r1,q1⟩=>?_);obtain⟨c,rfl,q1⟩:=q1;cases r1;exact not_of (Cd ⟨.bl (!c),H1,I1,rfl,q1⟩)
noncomputable def tIf(t:TT)(ta tb:TE):TE:=λσ H Q=>t σ H λc H1=>if c=AC then ta σ H1 Q else tb σ H1 Q
def b81{c:AS}(hc:PT X c tA)(ha:PE X a ta)(hb:PE X b tb):PE X (.IfExp c a b pos) (tIf tA ta tb):=by
 intro pins s σ H Q I h;refine wpAny_IfExp (thn (hc pins s σ H _ I h) λd s1⟨H1,I1,q1⟩=>?_);cases d with
 |true=>exact ha pins s1 σ H1 Q I1 q1
 |false=>exact hb pins s1 σ H1 Q I1 q1
end
end L2
namespace L2
open PySem PySem.Spec PyProof.Rows
variable{u:AF}{X:Cx}{pins:List (AI×Obj)}{σ:St}{H:Hp}{s:AJ}{e tg:AS}{te:TE}{pos:Pos}{P:Ai}
noncomputable def SqL(K:AO)(H:Hp)(a:AI)(xs:List V):Prop:=
 Rd H a (.lst xs)∨
  ∃(o:Obj)(its:Array AF)(n:Nat),K.lookup a=AA o∧o.cls=.type "list"∧o.dict=AE∧o.data=.seq its n∧its.size<=sizeLine∧f7 xs its.toList
noncomputable def SqT(K:AO)(H:Hp)(a:AI)(xs:List V):Prop:=
 Rd H a (.tup xs)∨
  ∃(o:Obj)(its:Array AF)(n:Nat),K.lookup a=AA o∧o.cls=.type "tuple"∧o.dict=AE∧o.data=.seq its n∧its.size<=sizeLine∧f7 xs its.toList
noncomputable def c34:AF->Option V
 |.none=>AA .non
 |.bool b=>AA (.bl b)
 |.int i _=>AA (.int i)
 |.str x _=>AA (.str x)
 |.bytes b _=>AA (.byt b)
 |.float b _=>AA (.flt b)
 |.ref a=>AA (.ref a)
 |.type n=>AA (.ty n)
 |_=>AE
def f9.abs{x:V}(r:f9 x u):c34 u=AA x:=by
 cases x with
 |non=>cases r;rfl
 |bl _=>cases r;rfl
 |int _=>obtain⟨t,rfl⟩:=r;rfl
 |str _=>obtain⟨t,rfl⟩:=r;rfl
 |byt _=>obtain⟨t,rfl⟩:=r;rfl
 |flt _=>obtain⟨t,rfl⟩:=r;rfl
 |ref _=>cases r;rfl
 |ty _=>cases r;rfl
theorem f9.inj{x y:V}(r:f9 x u)(q:f9 y u):x=y:=Ar (r.abs.symm.trans q.abs)
theorem f7.inj:∀{xs ys:List V}{us:List AF},f7 xs us->f7 ys us->xs=ys
 |_,_,_,.nil,.nil=>rfl
 |_,_,_,.cons r t,.cons r' t'=>by rw[r.inj r',f7.inj t t']
section
variable {a:AI} {xs ys:List V}
def Inv.list(I:Inv X pins σ H s)(h:SqL X.K H a xs):∃its:List AF,f7 xs its∧PlainL s.heap a its.toArray∧xs.length<=sizeLine:=by
 rcases h with h|⟨o,its,n,hk,hc,hd,hs,hz,r⟩
 ·obtain⟨z,its,n,r,e⟩:=h.ok I.hok;exact⟨its,r,⟨_,n,e,rfl,rfl,rfl⟩,z⟩
 ·refine⟨its.toList,r,⟨o,n,I.kIn a o hk,hc,hd,by simpa using hs⟩,?_⟩;have e:=r.length;simp only[El]at e;lia
def Inv.tupleD(I:Inv X pins σ H s)(h:SqT X.K H a xs):∃its:List AF,f7 xs its∧C3 s.heap a its.toArray∧xs.length<=sizeLine:=by
 rcases h with h|⟨o,its,n,hk,hc,hdn,hs,hz,r⟩
 ·obtain⟨z,its,r,p⟩:=h.ok I.hok;exact⟨its,r,p,z⟩
 ·refine⟨its.toList,r,⟨o,I.kIn a o hk,hc,hdn,n,by simpa using hs⟩,?_⟩;have e:=r.length;simp only[El]at e;lia
def Inv.tuple(I:Inv X pins σ H s)(h:SqT X.K H a xs):∃its:List AF,f7 xs its∧HJ s.heap a its.toArray∧xs.length<=sizeLine:=by
 obtain⟨its,r,p,z⟩:=I.tupleD h;exact⟨its,r,p.tup,z⟩
def Inv.list_inj(I:Inv X pins σ H s)(h:SqL X.K H a xs)(h':SqL X.K H a ys):xs=ys:=by
 obtain⟨its,r,⟨o,n,e,_,_,d⟩,_⟩:=I.list h;obtain⟨its',r',⟨o',n',e',_,_,d'⟩,_⟩:=I.list h';rw[e]at e';cases e';rw[d]at d';injection d' with d1 _
 have:its=its':=by simpa using congrArg JE d1
 subst this;exact r.inj r'
def Inv.tuple_inj(I:Inv X pins σ H s)(h:SqT X.K H a xs)(h':SqT X.K H a ys):xs=ys:=by
 obtain⟨its,r,⟨o,e,_,n,d⟩,_⟩:=I.tuple h;obtain⟨its',r',⟨o',e',_,n',d'⟩,_⟩:=I.tuple h';rw[e]at e';cases e';rw[d]at d';injection d' with d1 _
 have:its=its':=by simpa using congrArg JE d1
 subst this;exact r.inj r'
end
section
variable {st:BR} {i5:List BR} {t u:TS} 
noncomputable def bn3:TS:=λD σ H=>D.nx σ H
noncomputable def c51(t u:TS):TS:=λD σ H=>t {D with nx:=u D} σ H
def cm0:PSs X [] bn3:=λ_ _ σ H _ I h=>Gn ⟨σ,H,I,h⟩
def b92(h1:PS X st t)(h2:PSs X i5 u):PSs X (st::i5) (c51 t u):=by
 intro pins s σ H D I h;refine Jg (thn (h1 pins s σ H {D with nx:=u D} I h) λf s1 q=>?_);cases f with
 |next=>
  obtain⟨σ',H',I',q⟩:=q;exact h2 pins s1 σ' H' D I' q
 |ret v=>exact q
 |brk=>exact q
 |cont=>exact q
noncomputable def cz3:TS:=λD σ H=>D.ct σ H
def cj1:PS X (.Pass pos) bn3:=λ_ _ σ H _ I h=>wpAny_Pass ⟨σ,H,I,h⟩
def by1:PS X (.Continue pos) cz3:=λ_ _ σ H _ I h=>wpAny_Continue ⟨σ,H,I,h⟩
def Inv.quiet(I:Inv X pins σ H s):interactive X.env=AG:=by simp[interactive,I.ok.kind]
noncomputable def cx5(te:TE):TS:=λD σ H=>te σ H λ_ H1=>D.nx σ H1
def cl4(he:PE X e te)(hs:Cb e AE pos.line X.env=pure AG:=by rfl):PS X (.Expr e pos) (cx5 te):=by
 intro pins s σ H D I h;exact wpAny_Expr_any (thn (he pins s σ H _ I h) λv s1⟨x,H1,I1,r1,q1⟩=>⟨σ,H1,I1,q1⟩) I.quiet hs
noncomputable def c56(te:TE):TS:=λD σ H=>te σ H D.rt
def cp1(he:PE X e te):PS X (.Return (AA e) pos) (c56 te):=by
 intro pins s σ H D I h;exact wpAny_Return_some (thn (he pins s σ H _ I h) λv s1⟨x,H1,I1,r1,q1⟩=>⟨x,σ,H1,I1,r1,q1⟩)
noncomputable def cy9:TS:=λD _ H=>D.rt .non H
def ci0:PS X (.Return AE pos) cy9:=λ_ _ σ H _ I h=>wpAny_Return_none ⟨.non,σ,H,I,rfl,h⟩
noncomputable def c27(c:TT)(t u:TS):TS:=λD σ H=>c σ H λb H1=>if b=AC then t D σ H1 else u D σ H1
def c16{c:AS}{a b:List BR}{tc:TT}(hc:PT X c tc)(ha:PSs X a t)(hb:PSs X b u):PS X (.If c a b pos) (c27 tc t u):=by
 intro pins s σ H D I h;refine wpAny_If (thn (hc pins s σ H _ I h) λd s1⟨H1,I1,q1⟩=>?_);cases d with
 |true=>exact ha pins s1 σ H1 D I1 q1
 |false=>exact hb pins s1 σ H1 D I1 q1
end
noncomputable abbrev TG:=V->St->Hp->(St->Hp->Prop)->Prop
noncomputable abbrev TGs:=List V->St->Hp->(St->Hp->Prop)->Prop
noncomputable def PG(X:Cx)(target:AS)(t:TG):Prop:=
 ∀(pins:List (AI×Obj))(s:AJ)(σ:St)(H:Hp)(v:V)(u:AF)(Q:St->Hp->Prop),Inv X pins σ H s->f9 v u->t v σ H Q ->
  AT (model X.prog X.w) X.A (assign target X.env u) (λ_ s'=>∃σ' H',Inv X pins σ' H' s'∧Q σ' H') X.xe s
noncomputable def PGs(X:Cx)(ts:List AS)(t:TGs):Prop:=
 ∀(pins:List (AI×Obj))(s:AJ)(σ:St)(H:Hp)(vs:List V)(us:List AF)(Q:St->Hp->Prop),Inv X pins σ H s->f7 vs us->t vs σ H Q ->
  AT (model X.prog X.w) X.A (assignInOrder ((Bv ts X.env).map (·.2)) us) (λ_ s'=>∃σ' H',Inv X pins σ' H' s'∧Q σ' H') X.xe s
noncomputable abbrev aq2:=V->V->V->Hp->(Hp->Prop)->Prop
noncomputable def br8(X:Cx)(t:aq2):Prop:=
 ∀(pins:List (AI×Obj))(s:AJ)(σ:St)(H:Hp)(o i v:V)(ov iv u:AF)(Q:Hp->Prop),Inv X pins σ H s->f9 o ov->f9 i iv->f9 v u->t o i v H Q ->
  AT (model X.prog X.w) X.A (JR ov iv u) (λ_ s'=>∃H',Inv X pins σ H' s'∧Q H') X.xe s
section
noncomputable def an9(i:Nat):TG:=λv σ H Q=>Q (σ.set i (AA v)) H
def a71{i:Nat}{x:Str}(hN:X.N.Nodup)(hi:X.N[i]?=AA x)(hx:Loc X.env.scope x)(hf:X.fn x=AC∨X.env.scope.names.lookup x=AA .local:=by first|exact .inl rfl|exact .inr rfl|assumption):PG X (.Name x pos) (an9 i):=by
 intro pins s σ H v u Q I r h;exact JS (Y7 I hN hi hx r (λs' I'=>⟨_,H,I',h⟩) hf)
noncomputable def bs6:TGs:=λvs σ H Q=>vs=[]∧Q σ H
noncomputable def bn7(t:TG)(u:TGs):TGs:=λvs σ H Q=>∃v r,vs=v::r∧t v σ H λσ' H'=>u r σ' H' Q
def cj6:PGs X [] bs6:=by
 intro pins s σ H vs us Q I r h;obtain⟨e,h⟩:=h;subst e;cases r;exact assignInOrder_nil ⟨σ,H,I,h⟩
def cb7{es:List AS}{t:TG}{u:TGs}(h1:PG X e t)(h2:PGs X es u)
  (hs:(Bv (e::es) X.env).map (·.2)=assign e X.env::(Bv es X.env).map (·.2):=by rfl):PGs X (e::es) (bn7 t u):=by
 intro pins s σ H vs us Q I r h;obtain⟨v,vr,e1,h⟩:=h;subst e1;cases r with
 |cons r rr=>
  rw[hs];refine assignInOrder_cons (thn (h1 pins s σ H _ _ _ I r h) λ_ s1⟨σ1,H1,I1,q1⟩=>?_);exact h2 pins s1 σ1 H1 _ _ Q I1 rr q1
noncomputable def c49(K:AO)(n:Nat)(t:TGs):TG:=λv σ H Q=>∃a xs,v=.ref a∧SqT K H a xs∧xs.length=n∧t xs σ H Q
def ct6{es:List AS}{k:Nat}{t:TGs}{n:Nat}(hc:X.calm=AC)(h:PGs X es t)
  (hn:(Bv es X.env).length=n:=by rfl) (hst:(Bv es X.env).findIdx? (·.1)=AE:=by rfl):PG X (.Tuple es k pos) (c49 X.K n t):=by
 intro pins s σ H v u Q I r hw;obtain⟨a,xs,e1,hq,hl,hw⟩:=hw;subst e1;cases r;obtain⟨its,rv,ht,hz⟩:=I.tuple hq;refine assign_Tuple_tuple (I.ok.hd hc) ht (by simp[hn,<-hl,rv.length]) hst λh' hx=>?_;have I1:Inv X pins σ H {s with heap:=h'}:=I.kept (t':=s.toks) λb o e=>hx b o (BJ (Au e)) e;exact h pins _ σ H xs _ Q I1 (by simpa using rv) hw
noncomputable def c53(to ti:TE)(t:aq2):TG:=λv σ H Q=>to σ H λo H1=>ti σ H1 λi H2=>t o i v H2 λH3=>Q σ H3
def cw5{o i:AS}{to ti:TE}{t:aq2}(ho:PE X o to)(hi:PE X i ti)(hs:br8 X t)
  (ha:∀v,assign (.Subscript o i pos) X.env v=(do
   let ov <-holding [v] (eval o X.env)
   let iv <-holding [v,ov] (eval i X.env)
   Gr pos
   holding [v,ov,iv] (JR ov iv v)
   release [v,ov,iv] []):=by intro _;rfl):PG X (.Subscript o i pos) (c53 to ti t):=by
 intro pins s σ H v u Q I r h;rw[ha];refine AD (Bs (thn (ho pins s σ H _ I h) λov s1⟨x,H1,I1,r1,q1⟩=>?_));refine AD (Bs (thn (hi pins s1 σ H1 _ I1 q1) λiv s2⟨y,H2,I2,r2,q2⟩=>?_));refine AD (Hb (AD (Bs (thn (hs pins s2 σ H2 x y v ov iv u _ I2 r1 r2 r q2) λ_ s3⟨H3,I3,q3⟩=>?_))));exact wpAny_release ⟨σ,H3,I3,q3⟩
noncomputable def bs4(te:TE)(g:TG):TS:=λD σ H=>te σ H λx H1=>g x σ H1 D.nx
def cq0{g:TG}(he:PE X e te)(hg:PG X tg g)(hs:Fm [tg] e pos.line X.env=pure AG:=by rfl)(hw:swappedStores [tg] e X.env=pure AE:=by rfl)
  (h1:(Bv [tg] X.env).map (·.2)=[assign tg X.env]:=by rfl):PS X (.Assign [tg] e pos) (bs4 te g):=by
 intro pins s σ H D I h;refine wpAny_Assign_stores (thn (he pins s σ H _ I h) λv s1⟨x,H1,I1,r1,q1⟩=>?_) hs hw;rw[h1];exact thn (hg pins s1 σ H1 x v _ I1 r1 q1) λ_ s2 q=>q
def cn1{i:Nat}{x:Str}{pos':Pos}(hN:X.N.Nodup)(hi:X.N[i]?=AA x)(hx:Loc X.env.scope x)(he:PE X e te)(hs:Cb e (AA (.Name x pos')) pos.line X.env=pure AG:=by rfl)(hf:X.fn x=AC∨X.env.scope.names.lookup x=AA .local:=by first|exact .inl rfl|exact .inr rfl|assumption):
  PS X (.Assign [.Name x pos'] e pos) (bs4 te (an9 i)):=by
 intro pins s σ H D I h;refine wpAny_Assign_Name (thn (he pins s σ H _ I h) λv s1⟨y,H1,I1,r1,q1⟩=>?_) hs;exact Y7 I1 hN hi hx r1 (λs2 I2=>⟨_,H1,I2,q1⟩) hf
end
section
noncomputable def co9(c:TT)(tb:TS):TS:=λD σ H=>∃W:Nat->St->Hp->Prop,(∃m,W m σ H)∧∀m σ H,W m σ H ->
 c σ H λb H1=>if b=AC then ∃N:St->Hp->Prop,(∀σ' H',N σ' H'->∃m',m'<m∧W m' σ' H')∧tb {D with nx:=N,ct:=N,bk:=D.nx} σ H1 else D.nx σ H1
def b65{c:AS}{body:List BR}{tc:TT}{tb:TS}(hp:GX (model X.prog X.w) X.A X.env X.xe)(hc:PT X c tc)(hb:PSs X body tb):PS X (.While c body [] pos) (co9 tc tb):=by
 intro pins s σ H D I h;obtain⟨W,⟨m0,w0⟩,turn⟩:=h;refine wpAny_While (codeAny_whileLoop (λn s'=>∃σ' H',Inv X pins σ' H' s'∧W n σ' H') ?_ m0 ⟨σ,H,I,w0⟩);rintro n s1 ⟨σ1,H1,I1,w1⟩;refine CY hp (thn (hc pins s1 σ1 H1 _ I1 (turn n σ1 H1 w1)) λb s2⟨H2,I2,q2⟩=>?_);cases b with
 |true=>
  obtain⟨N,hN,q2⟩:=q2;rw[if_pos rfl];refine CY hp (thn (hb pins s2 σ1 H2 _ I2 q2) λf s3 q3=>?_);cases f with
  |next=>
   obtain⟨σ3,H3,I3,n3⟩:=q3;obtain⟨m',hm,w3⟩:=hN σ3 H3 n3;exact⟨m',hm,σ3,H3,I3,w3⟩
  |cont=>
   obtain⟨σ3,H3,I3,n3⟩:=q3;obtain⟨m',hm,w3⟩:=hN σ3 H3 n3;exact⟨m',hm,σ3,H3,I3,w3⟩
  |brk=>exact q3
  |ret v=>exact q3
 |false=>
  rw[if_neg AH];exact Gn ⟨σ1,H2,I2,q2⟩
end
structure It where
 go:Nat->Hp->Prop
 yld:Nat->Hp->V->Hp->Prop
 stop:Nat->Hp->Prop
noncomputable def z7(X:Cx)(pins:List (AI×Obj))(H:Hp)(b:AI):Prop:=
 H b=AE∧b≠X.env.locals∧b∉X.fs∧(b∈X.ex∨X.s₀.heap.objs.size<=b)∧(∀x c,X.env.cells.lookup x=AA c->c≠b)∧∀p∈X.pn++pins,p.1≠b
def Inv.fpOk{H':Hp}{b:AI}(I:Inv X pins σ H s)(hb:s.heap.objs.size<=b)(hn:H' b=AE):z7 X pins H' b:=by
 refine⟨hn,GJ (Al I.lt hb),I.nofs hb,.inr (BF I.sz hb),λx c e z=>?_,λp hp z=>?_⟩
 ·obtain⟨v,q⟩:=I.cell x c e;exact absurd (Al q.lt (by rw[z];exact hb)) (DC _)
 ·exact absurd (Al (Au (I.pin p hp).1) (by rw[z];exact hb)) (DC _)
structure Turn(P:Ai)(w:Ax)(K:AO)(tg:AS)(J:It)(fp:List AI)(it:AI)(tn:Nat->BC->Prop):Prop where
 mem:it∈fp
 obj:∀i h,tn i h->∀b∈fp,∃o,h.get? b=AA o∧∀v,o.data≠.cell v
 keep:∀i h h',tn i h->(∀b∈fp,∀o,h.get? b=AA o->h'.get? b=AA o)->tn i h'
 item:∀(X:Cx),X.prog=P->X.w=w->X.K=K->X.calm=AC->∀(i:Nat)(pins:List (AI×Obj))(s:AJ)(σ:St)(H:Hp)(E:AF->AJ->Prop),Inv X pins σ H s->(∀b∈fp,z7 X pins H b)->tn i s.heap->J.go i H ->
  AT (model P w) X.A (EB (.ref it)) (λr s1=>∃u,r=AA u ∧
   AT (model P w) X.A (Ex tg (.ref it) u) (λ_ s2=>∃x H',Inv X pins σ H' s2∧f9 x u∧J.yld i H x H'∧tn (i+1) s2.heap∧∀b∈fp,H' b=AE) E s1) E s
 done:∀(X:Cx),X.prog=P->X.w=w->X.K=K->X.calm=AC->∀(i:Nat)(pins:List (AI×Obj))(s:AJ)(σ:St)(H:Hp)(E:AF->AJ->Prop),Inv X pins σ H s->(∀b∈fp,z7 X pins H b)->tn i s.heap->J.stop i H ->
  AT (model P w) X.A (EB (.ref it)) (λr s1=>r=AE∧Inv X pins σ H s1) E s
 self:∀(A:BL)(i:Nat)(s:AJ)(Q:AF->AJ->Prop)(E:AF->AJ->Prop),tn i s.heap->Q (.ref it) s->AT (model P w) A (Hu (.ref it)) Q E s
noncomputable abbrev TI:=St->Hp->(It->Hp->Prop)->Prop
noncomputable def PIE(X:Cx)(pins:List (AI×Obj))(σ:St)(tg:AS)(R:It->Hp->Prop)(itv:AF)(s2:AJ):Prop:=
 ∃(it:AI)(fp:List AI)(tn:Nat->BC->Prop)(J:It)(H':Hp),itv=.ref it∧Inv X pins σ H' s2∧Turn X.prog X.w X.K tg J fp it tn∧tn 0 s2.heap∧(∀b∈fp,z7 X pins H' b)∧R J H'
noncomputable def PI(X:Cx)(tg iter:AS)(wi:TI):Prop:=
 ∀(pins:List (AI×Obj))(s:AJ)(σ:St)(H:Hp)(R:It->Hp->Prop),Inv X pins σ H s->wi σ H R ->
  AT (model X.prog X.w) X.A (eval iter X.env) (λv s1=>AT (model X.prog X.w) X.A (Hu v) (PIE X pins σ tg R) X.xe s1) X.xe s
def W5{M:Model}{A:BL}{E:AF->AJ->Prop}{it:AI}{o:Obj}{n:String}{vs:Array AF}{Q:Unit->AJ->Prop}(ho:s.heap.get? it=AA o)(hc:o.cls=.type n)(hd:o.data=.fields vs)
  (hn:["enumerate","zip","dict_itemiterator","dict_reverseitemiterator","odict_iterator","itertools.zip_longest","itertools.pairwise"].contains n=AG) (hQ:Q () s):AT M A (Ex tg (.ref it) u) Q E s:=by
 unfold Ex;cases tg<;>first
  |exact AK hQ
  | (cases u <;> first
    |exact AK hQ
    | (refine AD (wpAny_load ho ?_)
       rw[hc,hd];show AT M A (if(["enumerate","zip","dict_itemiterator","dict_reverseitemiterator","odict_iterator","itertools.zip_longest","itertools.pairwise"].contains n&&vs[0]?==AA (Cm _))=AC then _ else _) Q E s;rw[if_neg (by intro h;rw[hn,Bool.false_and]at h;cases h)];exact AK hQ))
noncomputable def Itl(K:AO)(a:AI):It:=
 ⟨λi H=>∃xs x,SqL K H a xs∧xs[i]?=AA x,λi H x H'=>H'=H∧∀xs,SqL K H a xs->xs[i]?=AA x,λi H=>∃xs,SqL K H a xs∧xs.length<=i⟩
noncomputable def Itt(K:AO)(a:AI):It:=
 ⟨λi H=>∃xs x,SqT K H a xs∧xs[i]?=AA x,λi H x H'=>H'=H∧∀xs,SqT K H a xs->xs[i]?=AA x,λi H=>∃xs,SqT K H a xs∧xs.length<=i⟩
noncomputable def Itr(lo:Int)(n:Nat):It:=⟨λi _=>i<n,λi H x H'=>H'=H∧x=.int (lo+i),λi _=>n<=i⟩
def b25{w:Ax}{K:AO}(a it:AI):Turn P w K tg (Itl K a) [it] it (λi h=>h.IsListIter it a i) where
 mem:=by simp
 obj:=λi h st b hb=>by
  have e:b=it:=by simpa using hb
  subst e;obtain⟨o,e,c,d⟩:=st;exact⟨o,e,λv z=>by rw[d]at z;cases z⟩
 keep:=λi h h' st k=>st.at λo e=>k it (by simp) o e
 item:=by
  intro X hP hw hK hc i pins s σ H E I hf st hg;subst hP hw hK;obtain⟨xs,x,hq,hx⟩:=hg;obtain⟨its,rv,p,hz⟩:=I.list hq;obtain⟨u,hu,ru⟩:=rv.get hx;obtain⟨f0,f1,f2,f3,f4,f5⟩:=hf it (by simp);refine wpAny_pyNext_list_item st p.isList (x:=u) (by simpa using hu) λh' st' sb=>?_;have I1:Inv X pins σ H {s with heap:=h'}:=I.turned (t':=s.toks) (λb o hb e=>(sb.2 b hb).trans e) f0 f1 f3 f4 f5;obtain⟨o,e,c,d⟩:=id st';exact⟨u,rfl,W5 (s:={s with heap:=h'}) e c d (by decide) ⟨x,H,I1,ru,⟨rfl,λys hy=>by rw[I.list_inj hy hq];exact hx⟩,st',λb hb=>(hf b hb).1⟩⟩
 done:=by
  intro X hP hw hK hc i pins s σ H E I hf st hg;subst hP hw hK;obtain⟨xs,hq,hx⟩:=hg;obtain⟨its,rv,p,hz⟩:=I.list hq;obtain⟨f0,f1,f2,f3,f4,f5⟩:=hf it (by simp);have hl:=rv.length;exact wpAny_pyNext_list_end (I.ok.hd hc) st p.isList (by simp;lia) λh' eb=>⟨rfl,I.turned (t':=s.toks) (λb o hb e=>eb b o hb e) f0 f1 f3 f4 f5⟩
 self:=λ_ _ _ _ _ st h=>wpAny_pyIter_listiter st h
def b05{w:Ax}{K:AO}(a it:AI):Turn P w K tg (Itt K a) [it] it (λi h=>h.IsTupleIter it a i) where
 mem:=by simp
 obj:=λi h st b hb=>by
  have e:b=it:=by simpa using hb
  subst e;obtain⟨o,e,c,d⟩:=st;exact⟨o,e,λv z=>by rw[d]at z;cases z⟩
 keep:=λi h h' st k=>st.at λo e=>k it (by simp) o e
 item:=by
  intro X hP hw hK hc i pins s σ H E I hf st hg;subst hP hw hK;obtain⟨xs,x,hq,hx⟩:=hg;obtain⟨its,rv,p,hz⟩:=I.tuple hq;obtain⟨u,hu,ru⟩:=rv.get hx;obtain⟨f0,f1,f2,f3,f4,f5⟩:=hf it (by simp);refine wpAny_pyNext_tuple_item st (show s.heap.IsTuple a its.toArray from p) (x:=u) (by simpa using hu) λh' st' sb=>?_;have I1:Inv X pins σ H {s with heap:=h'}:=I.turned (t':=s.toks) (λb o hb e=>(sb.2 b hb).trans e) f0 f1 f3 f4 f5;obtain⟨o,e,c,d⟩:=id st';exact⟨u,rfl,W5 (s:={s with heap:=h'}) e c d (by decide) ⟨x,H,I1,ru,⟨rfl,λys hy=>by rw[I.tuple_inj hy hq];exact hx⟩,st',λb hb=>(hf b hb).1⟩⟩
 done:=by
  intro X hP hw hK hc i pins s σ H E I hf st hg;subst hP hw hK;obtain⟨xs,hq,hx⟩:=hg;obtain⟨its,rv,p,hz⟩:=I.tuple hq;obtain⟨f0,f1,f2,f3,f4,f5⟩:=hf it (by simp);have hl:=rv.length;exact wpAny_pyNext_tuple_end (I.ok.hd hc) st (show s.heap.IsTuple a its.toArray from p) (by simp;lia) λh' eb=>⟨rfl,I.turned (t':=s.toks) (λb o hb e=>eb b o hb e) f0 f1 f3 f4 f5⟩
 self:=λ_ _ _ _ _ st h=>wpAny_pyIter_tupleiter st h
def b00{w:Ax}{K:AO}(it:AI)(lo:Int)(n:Nat):Turn P w K tg (Itr lo n) [it] it (λi h=>IsRangeIter h it (lo+(i:Nat)*1) ((n:Int)-(i:Nat)) 1) where
 mem:=by simp
 obj:=λi h st b hb=>by
  have e:b=it:=by simpa using hb
  subst e;exact⟨_,st,λv z=>by
   have z':Data.fields _=Data.cell v:=z;cases z'⟩
 keep:=λi h h' st k=>k it (by simp) _ st
 item:=by
  intro X hP hw hK hc i pins s σ H E I hf st hg;subst hP hw hK;obtain⟨f0,f1,f2,f3,f4,f5⟩:=hf it (by simp);have W:=Walks.range (prog:=X.prog) (w:=X.w) (I.ok.hd hc) it lo 1 n;refine W.item i s _ _ hg st λv h' tk hv st' kk=>?_;obtain⟨t,rfl⟩:=hv;have I1:Inv X pins σ H {s with heap:=h',toks:=tk}:=I.turned (λb o hb e=>kk b o (by simpa using hb) e) f0 f1 f3 f4 f5;refine⟨_,rfl,W5 (s:={s with heap:=h',toks:=tk}) (n:="range_iterator") st' rfl rfl (by decide) ⟨.int (lo+i),H,I1,⟨t,?_⟩,⟨rfl,rfl⟩,st',λb hb=>(hf b hb).1⟩⟩;rw[Int.mul_one]
 done:=by
  intro X hP hw hK hc i pins s σ H E I hf st hg;subst hP hw hK;obtain⟨f0,f1,f2,f3,f4,f5⟩:=hf it (by simp);exact wpAny_pyNext_range_end (I.ok.hd hc) st (by have:n<=i:=hg;lia) λh' eb=>⟨rfl,I.turned (t':=s.toks) (λb o hb e=>eb b o hb e) f0 f1 f3 f4 f5⟩
 self:=λ_ _ _ _ _ st h=>wpAny_pyIter_rangeiter st h
end L2
namespace L2
open PySem PySem.Spec PyProof.Rows
variable{pins:List (AI×Obj)}{σ:St}{H:Hp}{s:AJ}{fp:List AI}
section
variable {X:Cx} {tg:AS}
def ax5{R:It->Hp->Prop}{E:AF->AJ->Prop}{lo hi:Int}{t u v:Tok}{tk:Nat}(I:Inv X pins σ H s)(h1:-(2^62)<=lo)(h2:lo<2^62)(h3:-(2^62)<=hi)(h4:hi<2^62)
  (q:R (Itr lo (hi-lo).toNat) H):AT (model X.prog X.w) X.A (Hu (.ref s.heap.objs.size)) (PIE X pins σ tg R) E {s with heap:=s.heap.push {cls:=.type "range",data:=.fields #[.int lo t,.int hi u,.int 1 v]},toks:=tk}:=by
 refine wpAny_pyIter_range (IsRange.new ..) (small_one h1 h2 h3 h4) ?_;have I1:Inv X pins σ H {s with heap:=s.heap.push {cls:=.type "range",data:=.fields #[.int lo t,.int hi u,.int 1 v]},toks:=tk}:=I.kept λb o e=>AQ _ e;refine⟨(s.heap.push {cls:=.type "range",data:=.fields #[.int lo t,.int hi u,.int 1 v]}).objs.size,[(s.heap.push {cls:=.type "range",data:=.fields #[.int lo t,.int hi u,.int 1 v]}).objs.size],_,_,H,rfl,
  I1.kept (t':=tk) λb o e=>AQ _ e,b00 _ lo (hi-lo).toNat,?_,λb hb=>?_,q⟩
 ·have e1:lo+((0:Nat):Int)*1=lo:=by simp
  have e2:(((hi-lo).toNat:Nat):Int)-((0:Nat):Int)=Jh lo hi 1:=by rw[rangeSize_one];split<;>lia
  show IsRangeIter _ _ (lo+((0:Nat):Int)*1) ((((hi-lo).toNat:Nat):Int)-((0:Nat):Int)) 1;rw[e1,e2];exact Ap _ rfl
 ·have e:b=(s.heap.push {cls:=.type "range",data:=.fields #[.int lo t,.int hi u,.int 1 v]}).objs.size:=by simpa using hb
  subst e;exact I1.fpOk (AU _) (I1.hok.fresh (AU _))
noncomputable def cx4(ta:TA):TI:=λσ H R=>ta σ H λvs H1=>∃j:Int,vs=[.int j]∧-(2^62)<=j∧j<2^62∧R (Itr 0 j.toNat) H1
noncomputable def cz2(ta:TA):TI:=λσ H R=>ta σ H λvs H1=>∃i j:Int,vs=[.int i,.int j]∧(-(2^62)<=i∧i<2^62∧-(2^62)<=j∧j<2^62)∧R (Itr i (j-i).toNat) H1
def b38{a:AS}{ta:TA}{p pos:Pos}(hg:Gl X "range")(hm:X.mg "range"=AE)(ha:PA X [a] ta)(hs:Ak [a] X.env=[(AG,eval a X.env)]:=by rfl):PI X tg (.Call (.Name "range" p) [a] [] pos) (cx4 ta):=by
 intro pins s σ H R I h;refine IS (F5 I hg hm boot_range (BB (thn (ha pos pins s σ H _ I h) λus s1⟨vs,H1,I1,r1,q1⟩=>?_) hs rfl));obtain⟨j,e,q1,q2,q⟩:=q1;subst e;cases r1 with
 |cons r rr=>
  cases rr;obtain⟨t,rfl⟩:=r;exact call_range_1 (ax5 I1 (by lia) (by lia) q1 q2 (by simpa using q))
def b31{a b:AS}{ta:TA}{p pos:Pos}(hg:Gl X "range")(hm:X.mg "range"=AE)(ha:PA X [a,b] ta)(hs:Ak [a,b] X.env=[(AG,eval a X.env),(AG,eval b X.env)]:=by rfl)(hs2:Ak [b] X.env=[(AG,eval b X.env)]:=by rfl):
  PI X tg (.Call (.Name "range" p) [a,b] [] pos) (cz2 ta):=by
 intro pins s σ H R I h;refine IS (F5 I hg hm boot_range (BB (thn (ha pos pins s σ H _ I h) λus s1⟨vs,H1,I1,r1,q1⟩=>?_) (by rw[hs,hs2]) (by rw[hs2];rfl)));obtain⟨i,j,e,⟨q1,q2,q3,q4⟩,q⟩:=q1;subst e;cases r1 with
 |cons r rr=>
  cases rr with
  |cons r' rr=>
   cases rr;obtain⟨t,rfl⟩:=r;obtain⟨t',rfl⟩:=r';exact call_range_2 (ax5 I1 q1 q2 q3 q4 q)
noncomputable def c52(wi:TI)(g:TG)(tb:TS):TS:=λD σ H=>wi σ H λJ H1=>∃W:Nat->Nat->St->Hp->Prop,(∃m,W 0 m σ H1)∧∀i m σ H,W i m σ H ->
 (J.stop i H∧D.nx σ H)∨(J.go i H∧∃N:St->Hp->Prop,(∀σ' H',N σ' H'->∃m',m'<m∧W (i+1) m' σ' H')∧∀x H',J.yld i H x H'->g x σ H' λσ2 H2=>tb {D with nx:=N,ct:=N,bk:=D.nx} σ2 H2)
noncomputable def V7(fp:List AI)(h:BC):List (AI×Obj):=fp.filterMap λb=>(h.get? b).map λo=>(b,o)
def Y1{h:BC}{b:AI}{o:Obj}(hb:b∈fp)(e:h.get? b=AA o):(b,o)∈V7 fp h:=Hm.mpr ⟨b,hb,by rw[e];rfl⟩
def b36{h:BC}{p:AI×Obj}(hp:p∈V7 fp h):p.1∈fp∧h.get? p.1=AA p.2:=by
 obtain⟨b,hb,e⟩:=Hm.mp hp;cases q:h.get? b with
 |none=>rw[q]at e;cases e
 |some o=>
  rw[q]at e;have e':(b,o)=p:=Ar e;subst e';exact⟨hb,q⟩
def Inv.pinned(I:Inv X pins σ H s)(hf:∀b∈fp,z7 X pins H b)(ho:∀b∈fp,∃o,s.heap.get? b=AA o∧∀v,o.data≠.cell v):Inv X (pins++V7 fp s.heap) σ H s:=
 I.pins_of λp hp=>(Bc.mp hp).elim (λz=>I.pin p (BD _ z)) λz=>by
  obtain⟨hb,e⟩:=b36 z;obtain⟨f0,f1,f2,_⟩:=hf p.1 hb;obtain⟨o,e',d⟩:=ho p.1 hb;rw[e]at e';cases e';exact⟨e,f0,f1,f2,d⟩
def Inv.unpinned{pl:List (AI×Obj)}(I:Inv X (pins++pl) σ H s):Inv X pins σ H s:=I.pins_of λp hp=>I.pin p (BD _ (Dk _ hp))
def cw8{iter:AS}{body:List BR}{wi:TI}{g:TG}{tb:TS}{pos:Pos}(hp:GX (model X.prog X.w) X.A X.env X.xe)(hc:X.calm=AC)(hi:PI X tg iter wi)(hg:PG X tg g)(hb:PSs X body tb)
  (hs:∀x,DH iter X.env x=pure x:=by intro _;rfl):PS X (.For tg iter body [] pos) (c52 wi g tb):=by
 intro pins s σ H D I h;refine wpAny_For (thn (hi pins s σ H _ I h) λv s1 h1=>thn h1 λitv s2 h2=>?_) hs;obtain⟨it,fp,tn,J,H2,e,I2,T,st2,f2,W,⟨m0,w0⟩,turn⟩:=h2;subst e;have stat:∀{H':Hp},(∀b∈fp,H' b=AE)->∀b∈fp,z7 X pins H' b:=λhn b hb=>⟨hn b hb,(f2 b hb).2⟩;refine codeAny_forLoop_any (λn s'=>∃i σ' H',Inv X pins σ' H' s'∧tn i s'.heap∧(∀b∈fp,H' b=AE)∧W i n σ' H') ?_ m0 ⟨0,σ,H2,I2,st2,λb hb=>(f2 b hb).1,w0⟩;rintro n s3 ⟨i,σ3,H3,I3,st3,fr3,w3⟩
 rcases turn i n σ3 H3 w3 with⟨stop,qn⟩|⟨go,N,hN,step⟩
 ·refine CY hp (thn (T.done X rfl rfl rfl hc i pins s3 σ3 H3 X.xe I3 (stat fr3) st3 stop) λr s4⟨hr,I4⟩=>?_);subst hr;exact Gn ⟨σ3,H3,I4,qn⟩
 ·refine CY hp (thn (T.item X rfl rfl rfl hc i pins s3 σ3 H3 X.xe I3 (stat fr3) st3 go) λr s4⟨u,hr,h4⟩=>?_);subst hr;refine CY hp (thn h4 λ_ s5⟨x,H5,I5,r5,y5,st5,fr5⟩=>?_);have I5':=I5.pinned (stat fr5) (T.obj _ _ st5);refine CY hp (thn (hg _ s5 σ3 H5 x u _ I5' r5 (step x H5 y5)) λ_ s6⟨σ6,H6,I6,q6⟩=>?_);refine CY hp (thn (hb _ s6 σ6 H6 _ I6 q6) λf s7 q7=>?_);have again:∀{σ7:St}{H7:Hp},Inv X (pins++V7 fp s5.heap) σ7 H7 s7->N σ7 H7->∃m,m<n∧∃i σ' H',Inv X pins σ' H' s7∧tn i s7.heap∧(∀b∈fp,H' b=AE)∧W i m σ' H':=λ{σ7 H7}I7 n7=>by
   obtain⟨m',hm,w7⟩:=hN σ7 H7 n7;refine⟨m',hm,i+1,σ7,H7,I7.unpinned,T.keep _ _ _ st5 λb hb o e=>(I7.pin (b,o) (BD _ (BD _ (Y1 hb e)))).1,λb hb=>?_,w7⟩;obtain⟨o,e,d⟩:=T.obj _ _ st5 b hb;exact(I7.pin (b,o) (BD _ (BD _ (Y1 hb e)))).2.1
  cases f with
  |next=>obtain⟨σ7,H7,I7,n7⟩:=q7;exact again I7 n7
  |cont=>obtain⟨σ7,H7,I7,n7⟩:=q7;exact again I7 n7
  |brk=>obtain⟨σ7,H7,I7,q7⟩:=q7;exact⟨σ7,H7,I7.unpinned,q7⟩
  |ret v=>obtain⟨x7,σ7,H7,I7,r7,q7⟩:=q7;exact⟨x7,σ7,H7,I7.unpinned,r7,q7⟩
end
end L2
namespace L2
open PySem PySem.Spec PyProof.Rows
variable{op:Dn}
noncomputable abbrev R2:=V->V->Hp->VK->Prop
variable{r:R2}
noncomputable def OpR(X:Cx)(f:AF->AF->Sem AF)(r:R2):Prop:=
 ∀(pins:List (AI×Obj))(s:AJ)(σ:St)(H:Hp)(x y:V)(v u:AF)(Q:VK),Inv X pins σ H s->f9 x v->f9 y u->r x y H Q ->
  AT (model X.prog X.w) X.A (f v u) (EP X pins σ Q) X.xe s
noncomputable def UnR(X:Cx)(f:AF->Sem AF)(r:V->Hp->VK->Prop):Prop:=
 ∀(pins:List (AI×Obj))(s:AJ)(σ:St)(H:Hp)(x:V)(v:AF)(Q:VK),Inv X pins σ H s->f9 x v->r x H Q ->
  AT (model X.prog X.w) X.A (f v) (EP X pins σ Q) X.xe s
noncomputable def E4(X:Cx)(f:AF)(r:List V->Hp->VK->Prop):Prop:=
 ∀(pins:List (AI×Obj))(s:AJ)(σ:St)(H:Hp)(xs:List V)(us:List AF)(Q:VK),Inv X pins σ H s->f7 xs us->r xs H Q ->
  AT (model X.prog X.w) X.A (call f us) (EP X pins σ Q) X.xe s
noncomputable def tOp(r:R2)(ta tb:TE):TE:=λσ H Q=>ta σ H λx H1=>tb σ H1 λy H2=>r x y H2 Q
noncomputable def tUn(r:V->Hp->VK->Prop)(ta:TE):TE:=λσ H Q=>ta σ H λx H1=>r x H1 Q
noncomputable def rI(C:Int->Int->Prop)(g:Int->Int->V):R2:=λx y H Q=>∃i j,x=.int i∧y=.int j∧C i j∧Q (g i j) H
noncomputable def rI0(g:Int->Int->V):R2:=λx y H Q=>∃i j,x=.int i∧y=.int j∧Q (g i j) H
noncomputable def rU(g:Int->V):V->Hp->VK->Prop:=λx H Q=>∃i,x=.int i∧Q (g i) H
section
variable {X:Cx} {a b c:AS} {ta tb tc:TE} {pos:Pos}
def aq1(ha:PE X a ta)(hb:PE X b tb){pins:List (AI×Obj)}{s:AJ}{σ:St}{H:Hp}{R:V->V->Hp->Prop}(I:Inv X pins σ H s)
  (h:ta σ H λx H1=>tb σ H1 λy H2=>R x y H2) {Q:AF->AJ->Prop} {f:AF->AF->Sem AF}
  (hf:∀v u s2 x y H2,Inv X pins σ H2 s2->f9 x v->f9 y u->R x y H2->AT (model X.prog X.w) X.A (f v u) Q X.xe s2) :
  AT (model X.prog X.w) X.A (eval a X.env) (λv s₁=>AT (model X.prog X.w) X.A (eval b X.env) (λu s₂=>AT (model X.prog X.w) X.A (f v u) Q X.xe s₂) X.xe s₁) X.xe s:=by
 refine thn (ha pins s σ H _ I h) λv s1⟨x,H1,I1,r1,q1⟩=>?_;refine thn (hb pins s1 σ H1 _ I1 q1) λu s2⟨y,H2,I2,r2,q2⟩=>?_;exact hf v u s2 x y H2 I2 r1 r2 q2
def O6{op:Ec}(ho:OpR X (Co op) r)(ha:PE X a ta)(hb:PE X b tb):PE X (.BinOp a op b pos) (tOp r ta tb):=by
 intro pins s σ H Q I h;exact wpAny_BinOp (aq1 ha hb I h λv u s2 x y H2 I2 rx ry q=>ho pins s2 σ H2 x y v u Q I2 rx ry q)
def c04{op:UnaryOp}{r:V->Hp->VK->Prop}(ho:UnR X (unaryOp op) r)(ha:PE X a ta):PE X (.UnaryOp op a pos) (tUn r ta):=by
 intro pins s σ H Q I h;exact UnaryOp_ (thn (ha pins s σ H _ I h) λv s1⟨x,H1,I1,r1,q1⟩=>ho pins s1 σ H1 x v Q I1 r1 q1)
def opI{f:AF->AF->Sem AF}{C:Int->Int->Prop}{g:Int->Int->Int}
  (rule:∀(i j:Int)(t u:Tok)(s:AJ)(Q:AF->AJ->Prop)(E:AF->AJ->Prop),C i j->Q (.int (g i j) s.toks) {s with toks:=s.toks+1}->AT (model X.prog X.w) X.A (f (.int i t) (.int j u)) Q E s) :
  OpR X f (rI C λi j=>.int (g i j)):=by
 intro pins s σ H x y v u Q I rx ry h;obtain⟨i,j,rfl,rfl,hc,q⟩:=h;obtain⟨t,rfl⟩:=rx;obtain⟨t',rfl⟩:=ry;exact rule i j t t' s _ _ hc ⟨.int (g i j),H,I.tok _,⟨_,rfl⟩,q⟩
def bq6{f:AF->AF->Sem AF}{g:Int->Int->Int}
  (rule:∀(i j:Int)(t u:Tok)(s:AJ)(Q:AF->AJ->Prop)(E:AF->AJ->Prop),Q (.int (g i j) s.toks) {s with toks:=s.toks+1}->AT (model X.prog X.w) X.A (f (.int i t) (.int j u)) Q E s) :
  OpR X f (rI0 λi j=>.int (g i j)):=by
 intro pins s σ H x y v u Q I rx ry h;obtain⟨i,j,rfl,rfl,q⟩:=h;obtain⟨t,rfl⟩:=rx;obtain⟨t',rfl⟩:=ry;exact rule i j t t' s _ _ ⟨.int (g i j),H,I.tok _,⟨_,rfl⟩,q⟩
def ac1{f:AF->AF->Sem AF}{g:Int->Int->Bool}
  (rule:∀(i j:Int)(t u:Tok)(s:AJ)(Q:AF->AJ->Prop)(E:AF->AJ->Prop),Q (.bool (g i j)) s->AT (model X.prog X.w) X.A (f (.int i t) (.int j u)) Q E s) :
  OpR X f (rI0 λi j=>.bl (g i j)):=by
 intro pins s σ H x y v u Q I rx ry h;obtain⟨i,j,rfl,rfl,q⟩:=h;obtain⟨t,rfl⟩:=rx;obtain⟨t',rfl⟩:=ry;exact rule i j t t' s _ _ ⟨.bl (g i j),H,I,rfl,q⟩
noncomputable def ap4(i j:Int):Prop:=0<=j∧j<=1000000∧i.natAbs<2^64
noncomputable def ap7(i j:Int):Prop:=(-(2^64)<i∧i<2^64)∨(-(2^64)<j∧j<2^64)
def ap7.ok{i j:Int}(h:ap7 i j):KR i j:=by
 rcases h with⟨h1,h2⟩|⟨h1,h2⟩
 ·exact .of_left (intBits_le_64 h1 h2)
 ·exact .of_right (intBits_le_64 h1 h2)
def cn3:OpR X (Co .Add) (rI0 λi j=>.int (i+j)):=bq6 λ_ _ _ _ _ _ _ q=>add_int q
def cv2:OpR X (Co .Sub) (rI0 λi j=>.int (i-j)):=bq6 λ_ _ _ _ _ _ _ q=>sub_int q
def cv0:OpR X (Co .Mod) (rI (λ_ j=>0<j) λi j=>.int (i % j)):=opI λi j _ _ _ _ _ hc q=>by
 have h1:(0:Int)<j:=hc;exact mod_int' (by lia) (by rw[Int.fmod_eq_emod_of_nonneg i (by lia)];exact q)
def cr9:OpR X (Co .Pow) (rI ap4 λi j=>.int (i^j.toNat)):=opI λ_ _ _ _ _ _ _ hc q=>pow_int_small hc.1 hc.2.1 hc.2.2 q
def unI{f:AF->Sem AF}{g:Int->Int}
  (rule:∀(i:Int)(t:Tok)(s:AJ)(Q:AF->AJ->Prop)(E:AF->AJ->Prop),Q (.int (g i) s.toks) {s with toks:=s.toks+1}->AT (model X.prog X.w) X.A (f (.int i t)) Q E s) :
  UnR X f (rU λi=>.int (g i)):=by
 intro pins s σ H x v Q I rx h;obtain⟨i,rfl,q⟩:=h;obtain⟨t,rfl⟩:=rx;exact rule i t s _ _ ⟨.int (g i),H,I.tok _,⟨_,rfl⟩,q⟩
def cw2:UnR X (unaryOp .USub) (rU λi=>.int (-i)):=unI λ_ _ _ _ _ q=>neg_int q
end
section
variable {X:Cx} {a b c:AS} {ta tb tc:TE} {pos:Pos}
def cy7:OpR X (Bl .Lt) (rI0 λi j=>.bl (AB (i<j))):=ac1 λ_ _ _ _ _ _ _ q=>lt_int q
def c01:OpR X (Bl .LtE) (rI0 λi j=>.bl (AB (i<=j))):=ac1 λ_ _ _ _ _ _ _ q=>le_int q
def cz1:OpR X (Bl .Gt) (rI0 λi j=>.bl (AB (j<i))):=ac1 λ_ _ _ _ _ _ _ q=>gt_int q
def c10:OpR X (Bl .GtE) (rI0 λi j=>.bl (AB (j<=i))):=ac1 λ_ _ _ _ _ _ _ q=>ge_int q
def OpR.or{f:AF->AF->Sem AF}{r':R2}(h:OpR X f r)(h':OpR X f r'):OpR X f (λx y H Q=>r x y H Q∨r' x y H Q):=by
 intro pins s σ H x y v u Q I rx ry q
 rcases q with q|q
 ·exact h pins s σ H x y v u Q I rx ry q
 ·exact h' pins s σ H x y v u Q I rx ry q
def c65(b:AS)(h:op≠.In:=by decide)(h2:op≠.NotIn:=by decide):CI op b=AG:=by
 have e1:(op==CmpOp.In)=AG:=by cases op<;>first|rfl|exact absurd rfl h
 have e2:(op==HL)=AG:=by cases op<;>first|rfl|exact absurd rfl h2
 cases b<;>simp[CI,e1,e2]
def a49(ho:OpR X (Bl op) r)(ha:PE X a ta)(hb:PE X b tb)(hm:CI op b=AG):PE X (.Compare a [op] [b] pos) (tOp r ta tb):=by
 intro pins s σ H Q I h;exact KQ (aq1 ha hb I h λv u s2 x y H2 I2 rx ry q=>ho pins s2 σ H2 x y v u Q I2 rx ry q) hm
noncomputable def c12(t:TE):TT:=λσ H Q=>t σ H λx H'=>∃k,x=.bl k∧Q k H'
def a57(ho:OpR X (Bl op) r)(ha:PE X a ta)(hb:PE X b tb)(hm:CI op b=AG):PT X (.Compare a [op] [b] pos) (c12 (tOp r ta tb)):=by
 intro pins s σ H Q I h;refine IK (thn (ha pins s σ H _ I h) λv s1⟨x,H1,I1,r1,q1⟩=>thn (hb pins s1 σ H1 _ I1 q1) λu s2⟨y,H2,I2,r2,q2⟩=>
  thn (ho pins s2 σ H2 x y v u _ I2 r1 r2 q2) λc s3⟨z,H3,I3,r3,k,e,q3⟩=>?_) hm
 subst e;cases r3;exact Cd ⟨H3,I3,q3⟩
def V8:(sizeLine:Nat)<2^63:=by rw[Ge];decide
def S6{x:V}{us:List AF}(r:f7 [x] us):∃u,us=[u]∧f9 x u:=by
 cases r with
 |cons r1 r2=>cases r2;exact⟨_,rfl,r1⟩
def c19{x y:V}{us:List AF}(r:f7 [x,y] us):∃u w',us=[u,w']∧f9 x u∧f9 y w':=by
 cases r with
 |cons r1 r2=>
  cases r2 with
  |cons r3 r4=>cases r4;exact⟨_,_,rfl,r1,r3⟩
def b59:E4 X (.builtin "abs") (λxs H Q=>∃i,xs=[.int i]∧Q (.int (if i<0 then -i else i)) H):=by
 intro pins s σ H xs us Q I r h;obtain⟨i,rfl,q⟩:=h;obtain⟨u,rfl,t,rfl⟩:=S6 r;exact call_abs_int λu tk=>⟨.int (if i<0 then -i else i),H,I.tok _,⟨_,rfl⟩,q⟩
def b44(hc:X.calm=AC):E4 X (.builtin "max") (λxs H Q=>∃i j,xs=[.int i,.int j]∧Q (.int (if j>i then j else i)) H):=by
 intro pins s σ H xs us Q I r h;obtain⟨i,j,rfl,q⟩:=h;obtain⟨u,w',rfl,⟨t,rfl⟩,⟨t',rfl⟩⟩:=c19 r;refine max_two_ints (I.ok.hd hc) λh' tk k=>⟨_,H,I.kept k,?_,q⟩
 by_cases hj:j>i
 ·rw[if_pos hj,if_pos hj];exact⟨_,rfl⟩
 ·rw[if_neg hj,if_neg hj];exact⟨_,rfl⟩
def b46:E4 X (.type "int") (λxs H Q=>(∃i,xs=[.int i]∧Q (.int i) H)∨∃k,xs=[.bl k]∧Q (.int (if k then 1 else 0)) H):=by
 intro pins s σ H xs us Q I r h
 rcases h with⟨i,rfl,q⟩|⟨k,rfl,q⟩
 ·obtain⟨u,rfl,t,rfl⟩:=S6 r;exact call_int_int ⟨.int i,H,I,⟨_,rfl⟩,q⟩
 ·obtain⟨u,rfl,r1⟩:=S6 r;cases r1;exact call_int_bool ⟨.int (if k then 1 else 0),H,I.tok _,⟨_,rfl⟩,q⟩
end
end L2
namespace L2
open PySem PySem.Spec PyProof.Rows
variable{h:BC}{dx C:AI}{mA:Str->Option AF}{w:Ax}{A:BL}{s:AJ}{f:Str}{v:V}{Q:AF->AJ->Prop}{u:AF}{H:Hp}{X:Cx}
structure ObjM(h:BC)(x dx C:AI)(mA:Str->Option AF):Prop where
 obj:h.get? x=AA (Dm C dx)
 ns:h.Ns1 dx mA
 ne:dx≠x
def b49(n:h.Ns1 dx mA):∃od,h.get? dx=AA od∧∀name,Hv name od=AA (mA name):=by
 obtain⟨o,es,ep,ho,hd,hk,_,hm⟩:=n;refine⟨o,ho,λname=>?_⟩;have e:=hm name;unfold nsFind findBy at e;rw[<-Array.find?_toList]at e;unfold Hv;rw[hd];dsimp only
 split
 ·rename_i y q;rw[q]at e;exact congrArg AA e
 ·rename_i q;rw[q]at e;have a:es.toList.any (·.refKey)=AG:=by
   rw[GK];intro y hy;obtain⟨z,t,hkey⟩:=hk y (Array.mem_toList_iff.mp hy);simp[DictEntry.refKey,hkey]
  have a':¬es.toList.any (·.refKey)=AC:=by rw[a];exact AH
  rw[if_neg a'];exact congrArg AA e
def ObjM.look{x:AI}(I:ObjM h x dx C mA):∃od,W.InstAt h x (Dm C dx) C (AA od)∧∀name,Hv name od=AA (mA name):=
 let⟨od,ho,hl⟩:=b49 I.ns
 ⟨od,⟨I.obj,rfl,rfl,ho⟩,hl⟩
section
variable {prog:Ai} {E:AF->AJ->Prop} {K:AO} {x f:AI} {name:Str} {v:AF}
def cj5{expr:Bool}(X:K.In s.heap)(I:ObjM s.heap x dx C mA)(hg:Fb K C name=AC)(hh:GU K C=AC)
  (ha:BS K (.ref C) name=AA AE) (hv:mA name=AA v) (hv':W.handedIn v=AC) (h:Q v {s with toks:=s.toks+1}) :
  AT (model prog w) A (getAttr (.ref x) name expr) Q E s:=by
 obtain⟨od,J,hl⟩:=I.look;exact W.get_value X J (HM hg).1 (W.findObj_own hh ha rfl (by rw[hl,hv])) hv' h
def b95{pl:Sem Bool}{Q:AF×List AF->AJ->Prop}(X:K.In s.heap)(I:ObjM s.heap x dx C mA)(hg:Fb K C name=AC)
  (hf:BS K (.ref C) name=AA (AA (.ref f))) (ht:Hd K (.ref f)=AC) (hv:mA name=AE) (h:Q (.ref f,[.ref x]) s) :
  AT (model prog w) A (Ji (.ref x) name pl) Q E s:=by
 obtain⟨od,J,hl⟩:=I.look;exact W.method_fn X J (HM hg).1 (HM hg).2 hf (beq_iff_eq.mp ht) (by show(Hv name od).map (·.isSome)=AA AG;rw[hl,hv];rfl) h
def ce6{ns:List Str}{Q:Unit->AJ->Prop}(X:K.In s.heap)(I:ObjM s.heap x dx C mA)
  (hs:BS K (.ref C) "__setattr__"=AA (AA (.builtin "object.__setattr__"))) (hp:Hw K C=AC) (ht:JF K C name=AA AE) (hh:GU K C=AC)
  (hw:PySem.Within mA ns) (hsz:ns.length<=sizeLine)
  (h:∀h',ObjM h' x dx C (λy=>if y=name then AA v else mA y)->Az dx s.heap h'->Q () {s with heap:=h',toks:=s.toks+2}) :
  AT (model prog w) A (setAttr (.ref x) name v) Q E s:=by
 obtain⟨od,J,hl⟩:=I.look;refine W.set_plain X J hs (W.osa_open (s:={s with toks:=s.toks+1}) (r:=AE) X J hp ht λb=>?_);obtain⟨cd,hc,hd'⟩:=W.any_some hh;have hx:s.heap.get? x=AA ⟨.ref C,AA dx,.plain,#[]⟩:=I.obj;refine AD (AK (AD (AD (wpAny_loadPart hx (AD (W.Looks.here (s:={s with toks:=s.toks+1}) (W.looks_clsIn X hc) ?_))))));rw[hd'];refine AK (a:=AA dx) (AD (AK (AD ?_)));refine wpAny_nsSet1 (s:={s with toks:=s.toks+1}) I.ns λh' hn2 hs2=>?_;obtain⟨oD,esD,epD,hoD,hdD,hcD⟩:=hn2.count (PySem.Within.cons name v hw);refine AD (wpAny_lookBehind hoD (by rw[hdD];exact pastItsLine_dict (BF hcD (by rw[AW];lia))) ?_);exact AK (h _ ⟨(hs2.2 _ (Av I.ne)).trans I.obj,hn2,I.ne⟩ hs2)
def cb8{R:Hx->AJ->Prop}{vs:List AF}{kw:List (Str×AF)}(X:K.In s.heap)(hm:HU K C=AC)
  (hi:BS K (.ref C) "__init__"=AA (AA (.ref f))) (hf:W.typeIn K (.ref f)=AA (.type "function"))
  (h:Dq (model prog w) (A.under (.builtin "type.__call__" ⟨.ref C::vs,kw⟩)) (.call (.ref f) ⟨.ref (s.heap.objs.size+1)::vs,kw⟩) (W.InitBack (s.heap.objs.size+1) R)
   {s with heap:=(s.heap.push Cg).push (Dm C s.heap.objs.size)}) :
  Dq (model prog w) A (.call (.ref C) ⟨vs,kw⟩) R s:=by
 obtain⟨hh,g,d,t,os⟩:=s;exact W.make_core (W.makes_of X hm) (W.looks_findIn X hi) (λself=>W.bind_fn X self hf) (.inl rfl) h
end
noncomputable def v0(f:Str)(v:V):List (Str×V)->List (Str×V)
 |[]=>[(f,v)]
 |(g,x)::r=>if g=f then(g,v)::r else(g,x)::v0 f v r
theorem as9(f g:Str)(v:V):∀fs:List (Str×V),(v0 f v fs).lookup g=if g=f then AA v else fs.lookup g
 |[]=>by
  show Ct g [(f,v)]=_
  by_cases h:g=f
  ·have hb:(g==f)=AC:=beq_iff_eq.mpr h;simp only[Ct,hb,if_pos h]
  ·have hb:(g==f)=AG:=beq_eq_false_iff_ne.mpr h;simp only[Ct,hb,if_neg h]
 |(k,x)::r=>by
  have ih:=as9 f g v r;rw[show v0 f v ((k,x)::r)=(if k=f then(k,v)::r else(k,x)::v0 f v r) from rfl]
  by_cases hk:k=f
  ·rw[if_pos hk]
   by_cases h:g=k
   ·have hb:(g==k)=AC:=beq_iff_eq.mpr h;simp only[Ct,hb,if_pos (h.trans hk)]
   ·have hb:(g==k)=AG:=beq_eq_false_iff_ne.mpr h;simp only[Ct,hb,if_neg (λe:g=f=>h (e.trans hk.symm))]
  ·rw[if_neg hk]
   by_cases h:g=k
   ·have hb:(g==k)=AC:=beq_iff_eq.mpr h;simp only[Ct,hb,if_neg (λe:g=f=>hk (h.symm.trans e))]
   ·have hb:(g==k)=AG:=beq_eq_false_iff_ne.mpr h;simp only[Ct,hb];exact ih
theorem ai8(f:Str)(v:V):∀fs:List (Str×V),f∈(v0 f v fs).map (·.1)∧∀g,g∈fs.map (·.1)->g∈(v0 f v fs).map (·.1)
 |[]=>⟨by simp[v0],λg h=>by simp at h⟩
 |(k,x)::r=>by
  obtain⟨i1,i2⟩:=ai8 f v r;rw[show v0 f v ((k,x)::r)=(if k=f then(k,v)::r else(k,x)::v0 f v r) from rfl]
  by_cases hk:k=f
  ·rw[if_pos hk];subst hk;exact⟨by simp,λg h=>by simpa using h⟩
  ·rw[if_neg hk];refine⟨?_,λg h=>?_⟩
   ·rw[Aa];exact Ao _ i1
   ·rw[Aa]at h ⊢
    rcases AM.mp h with e|e
    ·exact mem_cons.mpr (.inl e)
    ·exact Ao _ (i2 g e)
theorem at2(f:Str)(v:V):∀fs:List (Str×V),(v0 f v fs).length<=fs.length+1
 |[]=>by simp[v0]
 |(k,x)::r=>by
  have ih:=at2 f v r;rw[show v0 f v ((k,x)::r)=(if k=f then(k,v)::r else(k,x)::v0 f v r) from rfl]
  by_cases hk:k=f
  ·rw[if_pos hk,AW,AW];lia
  ·rw[if_neg hk,AW,AW];lia
def w6.some_of{o:Option AF}(r:w6 (AA v) o):∃u,o=AA u∧f9 v u:=by
 cases o with
 |none=>exact(show False from r).elim
 |some u=>exact⟨u,rfl,r⟩
def w6.none_of{o:Option AF}(r:w6 AE o):o=AE:=by
 cases o with
 |none=>rfl
 |some u=>exact(show False from r).elim
def b21(r:f9 v u):W.handedIn u=AC:=by
 cases v with
 |non=>cases(show u=Bf from r);rfl
 |bl b=>cases(show u=GE b from r);rfl
 |int i=>obtain⟨t,e⟩:=(show ∃t,u=DZ i t from r);cases e;rfl
 |str x=>obtain⟨t,e⟩:=(show ∃t,u=EA x t from r);cases e;rfl
 |byt b=>obtain⟨t,e⟩:=(show ∃t,u=JQ b t from r);cases e;rfl
 |flt b=>obtain⟨t,e⟩:=(show ∃t,u=HI b t from r);cases e;rfl
 |ref a=>cases(show u=An a from r);rfl
 |ty n=>cases(show u=EI n from r);rfl
section
variable {P:Ai} {H':Hp} {h':BC} {a:AI} {fs fs':List (Str×V)}
def aa2(hok:HOk P w H h)(e:H a=AA (.ins C dx fs)):∃mA,ObjM h a dx C mA∧(∀f,w6 (fs.lookup f) (mA f))∧PySem.Within mA (fs.map (·.1))∧fs.length<=1000∧H dx=AA (.own a):=by
 obtain⟨d,z,ne,ob,mA,n,r,q⟩:=(show l9 P w H h a (.ins C dx fs) from hok a _ e);exact⟨mA,⟨ob,n,ne⟩,r,q,z,d⟩
end
structure Cls(K:AO)(C:AI):Prop where
 pg:Fb K C Str.empty=AC
 hd:GU K C=AC
 po:Hw K C=AC
 sa:BS K (.ref C) "__setattr__"=AA (AA (.builtin "object.__setattr__"))
def Cls.get{K:AO}(c:Cls K C)(f:Str):Fb K C f=AC:=c.pg
noncomputable def F7(K:AO)(C:AI)(f:Str):Prop:=BS K (.ref C) f=AA AE
def F7.taker{K:AO}(n:F7 K C f):JF K C f=AA AE:=by
 unfold JF;rw[show BS K (.ref C) f=AA AE from n];rfl
structure Meth(K:AO)(C:AI)(m:Str)(f:AI):Prop where
 at_:BS K (.ref C) m=AA (AA (.ref f))
 fn:Hd K (.ref f)=AC
 kp:Bh K (.ref f)=AC
section
variable {pins:List (AI×Obj)} {σ:St} {a:AI} {fs:List (Str×V)} {E:AF->AJ->Prop}
def by2{b:Bool}(I:Inv X pins σ H s)(e:H a=AA (.ins C dx fs))(c:Cls X.K C)(n:F7 X.K C f)(l:fs.lookup f=AA v)
  (h:∀u s',Inv X pins σ H s'->f9 v u->Q u s'):AT (model X.prog X.w) A (getAttr (.ref a) f b) Q E s:=by
 obtain⟨mA,O,r,_,_,_⟩:=aa2 I.hok e;obtain⟨u,hu,ru⟩:=w6.some_of (v:=v) (o:=mA f) (by rw[<-l];exact r f);exact cj5 I.kIn O (c.get f) c.hd n hu (b21 ru) (h u _ (I.tok _) ru)
def ah5{m:Str}{g:AI}{pl:Sem Bool}{Q:AF×List AF->AJ->Prop}(I:Inv X pins σ H s)(e:H a=AA (.ins C dx fs))(c:Cls X.K C)(k:Meth X.K C m g)(l:fs.lookup m=AE)
  (h:Q (.ref g,[.ref a]) s):AT (model X.prog X.w) A (Ji (.ref a) m pl) Q E s:=by
 obtain⟨mA,O,r,_,_,_⟩:=aa2 I.hok e;have hn:mA m=AE:=w6.none_of (by rw[<-l];exact r m);exact b95 I.kIn O (c.get m) k.at_ k.fn hn h
def bz4{y:V}{Q:Unit->AJ->Prop}(I:Inv X pins σ H s)(e:H a=AA (.ins C dx fs))(c:Cls X.K C)(n:F7 X.K C f)(hl:fs.length<1000)(ry:f9 y u)
  (h:∀s',Inv X pins σ (upd H a (.ins C dx (v0 f y fs))) s'->Q () s'):AT (model X.prog X.w) A (setAttr (.ref a) f u) Q E s:=by
 obtain⟨mA,O,r,wi,_,ho⟩:=aa2 I.hok e;have hz:(fs.map (·.1)).length<=sizeLine:=by rw[AV,Ge];lia
 refine ce6 I.kIn O c.sa c.po n.taker c.hd wi hz λh' O' sb=>h _ ?_;have hd:∃o,h'.get? dx=AA o:=let⟨o,_,_,e',_⟩:=O'.ns;⟨o,e'⟩;refine I.write (x:=a) (e:=dx) (by rw[e];exact Bp) (.inr ho) (λb q hb z=>(sb.2 b hb).trans z) hd ?_;refine⟨by rw[i7 O.ne];exact ho,?_,O.ne,O'.obj,_,O'.ns,λg=>?_,λg hg=>?_⟩
 ·have:=at2 f y fs;lia
 ·show w6 ((v0 f y fs).lookup g) (if g=f then AA u else mA g);rw[as9]
  by_cases q:g=f
  ·rw[if_pos q,if_pos q];exact ry
  ·rw[if_neg q,if_neg q];exact r g
 ·by_cases q:g=f
  ·rw[q];exact(ai8 f y fs).1
  ·refine(ai8 f y fs).2 g (wi g λz=>hg ?_);show(if g=f then AA u else mA g)=AE;rw[if_neg q];exact z
def Inv.made(I:Inv X pins σ H s):Inv X pins σ (upd (upd H s.heap.objs.size (.own (s.heap.objs.size+1))) (s.heap.objs.size+1) (.ins C s.heap.objs.size []))
  {s with heap:=(s.heap.push Cg).push (Dm C s.heap.objs.size)}:=by
 have e1:(s.heap.push Cg).get? s.heap.objs.size=AA Cg:=Ap s.heap rfl;have e2:((s.heap.push Cg).push (Dm C s.heap.objs.size)).get? (s.heap.objs.size+1)=AA (Dm C s.heap.objs.size):=by
  have:=Ap (s.heap.push Cg) (o:=Dm C s.heap.objs.size) rfl
  rwa [FV]at this
 have e3:(s.heap.push Cg).Ns s.heap.objs.size (λ_=>AE):=⟨Cg,#[],_,e1,rfl,(λe he=>absurd he (by simp)),λ_=>rfl⟩;have I1:=I.laid (a:=s.heap.objs.size) (o:=.own (s.heap.objs.size+1)) (h':=s.heap.push Cg) (t':=s.toks) (λb u q=>AQ _ q) (AU _) ⟨_,e1⟩;refine I1.laid (a:=s.heap.objs.size+1) (o:=.ins C s.heap.objs.size []) (t':=s.toks) (λb u q=>AQ _ q) (Jj (FV _ _)) ?_;have ne:s.heap.objs.size≠s.heap.objs.size+1:=BJ (GL _);refine⟨by rw[i7 ne,o9],BU _,ne,e2,λ_=>AE,(Heap.Ns1.of_empty e3).at λo q=>AQ _ q,λ_=>Bp,λy hy=>absurd rfl hy⟩
def cm1{prog:Ai}{env:Env}{e:AS}{pos:Pos}(hb:Cc e f env (eval e env)=eval e env)
  (h:AT (model prog w) A (eval e env) (λo s₁=>AT (model prog w) A (getAttr o f AC) Q E s₁) E s):AT (model prog w) A (eval (.Attribute e f pos) env) Q E s:=
 Attribute_any_ h (by rw[arm_eval_Attribute,hb])
end
noncomputable def c48(K:AO)(ta:TE)(f:Str):TE:=λσ H Q=>ta σ H λx H1=>∃a C dx fs v,x=.ref a∧H1 a=AA (.ins C dx fs)∧Cls K C∧F7 K C f∧fs.lookup f=AA v∧Q v H1
noncomputable def c60(K:AO)(ta tv:TE)(f:Str):TS:=λD σ H=>tv σ H λy H1=>ta σ H1 λx H2=>∃a C dx fs,x=.ref a∧H2 a=AA (.ins C dx fs)∧Cls K C∧F7 K C f∧fs.length<1000 ∧
 D.nx σ (upd H2 a (.ins C dx (v0 f y fs)))
section
variable {o e value:AS} {pos pos' tpos:Pos} {ta tv:TE}
def cp5(he:PE X e ta)(hb:Cc e f X.env (eval e X.env)=eval e X.env):PE X (.Attribute e f pos) (c48 X.K ta f):=by
 intro pins s σ H Q I h;refine cm1 hb (thn (he pins s σ H _ I h) λu s1⟨x,H1,I1,rx,a,C,dx,fs,v,ex,ea,c,n,l,q⟩=>?_);subst ex;obtain rfl:u=An a:=rx;exact by2 I1 ea c n l λu' s2 I2 ru=>⟨v,H1,I2,ru,q⟩
def cv7(ha:PE X o ta)(hv:PE X value tv)(hs:Cb value (AA (.Attribute o f pos')) pos.line X.env=pure AG):PS X (.Assign [.Attribute o f pos'] value pos) (c60 X.K ta tv f):=by
 intro pins s σ H D I h;refine plainObj_wpAny_Assign_Attribute (thn (hv pins s σ H _ I h) λu s1⟨y,H1,I1,ry,q⟩=>thn (ha pins s1 σ H1 _ I1 q) λov s2⟨x,H2,I2,rx,a,C,dx,fs,ex,ea,c,n,l,q2⟩=>?_) hs;subst ex;obtain rfl:ov=An a:=rx;exact bz4 I2 ea c n l ry λs3 I3=>⟨σ,_,I3,q2⟩
end
section
variable {pins:List (AI×Obj)} {σ:St} {E:AF->AJ->Prop} {c:AF} {b:Bool}
inductive TyOf(K:AO)(H:Hp):V->AF->Prop where
 |non:TyOf K H .non (.type "NoneType")
 |bl (x:Bool):TyOf K H (.bl x) (.type "bool")
 |int (i:Int):TyOf K H (.int i) (.type "int")
 |str (x:Str):TyOf K H (.str x) (.type "str")
 |flt (x:UInt64):TyOf K H (.flt x) (.type "float")
 |lst {a:AI} {xs:List V} (e:H a=AA (.lst xs)):TyOf K H (.ref a) (.type "list")
 |frz {a:AI} {o:Obj} {xs:List V} (e:H a=AA (.frz o (.lst xs))):TyOf K H (.ref a) (.type "list")
 |tup {a:AI} {xs:List V} (e:H a=AA (.tup xs)):TyOf K H (.ref a) (.type "tuple")
 |dK {a:AI} {kvs:List (Key×V)} (e:H a=AA (.dK kvs)):TyOf K H (.ref a) (.type "dict")
 |dT {a:AI} {kvs:List (Af×V)} (e:H a=AA (.dT kvs)):TyOf K H (.ref a) (.type "dict")
 |ins {a C dx:AI} {fs:List (Str×V)} (e:H a=AA (.ins C dx fs)) (cl:Cls K C) (ha:BS K (.ref C) "__class__"=AA (AA (.builtin "object.__class__")))
   (hn:W.specialIn K (.builtin "object.__class__") "__get__"=AA (AA (.builtin "getset_descriptor.__get__"))) (htk:W.takesIn K (.builtin "object.__class__")=AA AC)
   (hm:W.mroIn K C (.type "object")=AA AC):TyOf K H (.ref a) (.ref C)
def b12{x:V}{t:AF}(I:Inv X pins σ H s)(rx:f9 x u)(ty:TyOf X.K H x t)(e:EQ X.K t c=AA b)(h:∀tk,Q (.bool b) {s with toks:=tk}):
  AT (model X.prog X.w) A (call (.builtin "isinstance") [u,c]) Q E s:=by
 cases ty with
 |non=>cases(show u=Bf from rx);exact CW W.kitx_none I.kIn Bp e (λz=>nomatch z) h
 |bl y=>cases(show u=GE y from rx);exact CW W.kitx_bool I.kIn Bp e (λz=>nomatch z) h
 |int i=>obtain⟨t,q⟩:=(show ∃t,u=DZ i t from rx);cases q;exact CW W.kitx_int I.kIn Bp e (λz=>nomatch z) h
 |str y=>obtain⟨t,q⟩:=(show ∃t,u=EA y t from rx);cases q;exact CW W.kitx_str I.kIn Bp e (λz=>nomatch z) h
 |flt y=>obtain⟨t,q⟩:=(show ∃t,u=HI y t from rx);cases q;exact CW W.kitx_float I.kIn Bp e (λz=>nomatch z) h
 |@lst a xs ea=>
  cases(show u=An a from rx);obtain⟨_,_,n,_,h1⟩:=(show l9 X.prog X.w H s.heap a (.lst xs) from I.hok a _ ea);exact CW W.kitx_list I.kIn ⟨_,h1,rfl⟩ e (λz=>nomatch z) h
 |@frz a ob xs ea=>
  cases(show u=An a from rx);obtain⟨_,_,_,n,_,h1⟩:=(show l9 X.prog X.w H s.heap a (.frz ob (.lst xs)) from I.hok a _ ea);exact CW W.kitx_list I.kIn ⟨_,h1,rfl⟩ e (λz=>nomatch z) h
 |@tup a xs ea=>
  cases(show u=An a from rx);obtain⟨_,_,_,p⟩:=(show l9 X.prog X.w H s.heap a (.tup xs) from I.hok a _ ea);obtain⟨o,h1,h2,_⟩:=p;exact CW KS I.kIn ⟨o,h1,h2⟩ e (λz=>nomatch z) h
 |@dK a kvs ea=>
  cases(show u=An a from rx);obtain⟨_,_,vs,_,p⟩:=(show l9 X.prog X.w H s.heap a (.dK kvs) from I.hok a _ ea);obtain⟨o,es,ep,h1,h2,_⟩:=p;exact CW W.kitx_dict I.kIn ⟨o,h1,h2.1⟩ e (λz=>nomatch z) h
 |@dT a kvs ea=>
  cases(show u=An a from rx);obtain⟨_,_,xs,_,o,es,ep,h1,h2,_⟩:=(show l9 X.prog X.w H s.heap a (.dT kvs) from I.hok a _ ea);exact CW W.kitx_dict I.kIn ⟨o,h1,h2.1⟩ e (λz=>nomatch z) h
 |@ins a C dx fs ea cl ha hn htk hm=>
  cases(show u=An a from rx);obtain⟨mA,O,_⟩:=aa2 I.hok ea;obtain⟨od,J,_⟩:=O.look;exact CW (W.kitx_own (cl.get _) cl.hd ha hn htk hm) I.kIn J e (λz=>nomatch z) h
end
end L2
namespace L2
open PySem PySem.Spec PyProof.Rows
variable{A:BL}{C:AI}{us:List AF}{X:Cx}{s:AJ}{H:Hp}{pins:List (AI×Obj)}{σ:St}{Q:VK}{ps:List Str}{x:Str}{vs:List V}{kindOf:Str->Option FP}
structure Room(k:Nat)(A:BL):Prop where
 hd:A.handled=AE
 dp:A.depth+3*k+5<HN
 un:A.units+16*k+200<Bk
theorem Room.deeper{k:Nat}(r:Room (k+1) A)(env:Env):Room k (A.deeper env):=
 ⟨r.hd,by have:=r.dp;show A.depth+1+3*k+5<_;lia,by have:=r.un;show A.units+3+16*k+200<_;lia⟩
def b07{kw:List (Str×AF)}:(A.under (.builtin "type.__call__" ⟨.ref C::us,kw⟩)).depth=A.depth+1:=by
 first|rfl|simp[Gf,Code.weight,Code.isCreation,Code.isGuard,Code.isCaller,Jk,Gu,guardIds]
def b01{kw:List (Str×AF)}:(A.under (.builtin "type.__call__" ⟨.ref C::us,kw⟩)).units=A.units+1:=by
 first|rfl|simp[Gf,Code.cUnits,Jk,Gu]
def Room.make{k:Nat}(r:Room (k+1) A)(C:AI)(us:List AF)(kw:List (Str×AF)):Room k (A.under (.builtin "type.__call__" ⟨.ref C::us,kw⟩)):=
 ⟨r.hd,by have:=r.dp;rw[b07];lia,by have:=r.un;rw[b01];lia⟩
theorem Room.depth{k:Nat}(r:Room k A):A.depth<HN:=by have:=r.dp;lia
noncomputable def ar2:TA:=λ_ H Q=>Q [] H
noncomputable def ap0(ta:TE)(tr:TA):TA:=λσ H Q=>ta σ H λx H1=>tr σ H1 λxs H2=>Q (x::xs) H2
section
variable {e:AS} {es:List AS} {te:TE} {t:TA} {pos:Pos}
def bh2:PA X [] ar2:=λ_ _ _ _ H Q I h=>Do ⟨[],H,I,.nil,h⟩
def ak8(ha:PE X e te)(hr:PA X es t)(hs:Ak (e::es) X.env=(AG,eval e X.env)::Ak es X.env:=by rfl):PA X (e::es) (ap0 te t):=by
 intro pos pins s σ H Q I h;rw[hs];show AT _ _ (spliced ((AG,eval e X.env)::Bm pos (Ak es X.env))) _ _ s;refine Cp (thn (ha pins s σ H _ I h) λu s1⟨x,H1,I1,r1,q1⟩=>?_);exact thn (hr pos pins s1 σ H1 _ I1 q1) λus s2⟨xs,H2,I2,r2,q2⟩=>⟨x::xs,H2,I2,.cons r1 r2,q2⟩
noncomputable def c50(t:TA):TE:=λσ H Q=>t σ H λxs H1=>xs.length<=sizeLine∧∀p,H1 p=AE->Q (.ref p) (upd H1 p (.tup xs))
noncomputable def c64(t:TA):TE:=λσ H Q=>t σ H λxs H1=>xs.length<=sizeLine∧∀p,H1 p=AE->Q (.ref p) (upd H1 p (.lst xs))
def cr6{x1}(h:PA X es t):PE X (.Tuple es x1 pos) (c50 t):=by
 intro pins s σ H Q I hq;refine wpAny_Tuple_spliced (thn (h pos pins s σ H _ I hq) λus s1⟨xs,H1,I1,r,z,q⟩=>⟨by rw[<-r.length];exact z,?_⟩);have hf:H1 s1.heap.objs.size=AE:=I1.hok.fresh (AU _);refine⟨.ref s1.heap.objs.size,upd H1 s1.heap.objs.size (.tup xs),I1.laid (t':=s1.toks) (λb u e=>AQ _ e) (AU _) ?_,rfl,q _ hf⟩;exact⟨z,us,r,C3.new _ _⟩
def cp0(h:PA X es t):PE X (.List es pos) (c64 t):=by
 intro pins s σ H Q I hq;refine wpAny_List_spliced (thn (h pos pins s σ H _ I hq) λus s1⟨xs,H1,I1,r,z,q⟩=>⟨by rw[<-r.length];exact z,?_⟩);have hf:H1 s1.heap.objs.size=AE:=I1.hok.fresh (AU _);refine⟨.ref s1.heap.objs.size,upd H1 s1.heap.objs.size (.lst xs),I1.laid (t':=s1.toks) (λb u e=>AQ _ e) (AU _) ?_,rfl,q _ hf⟩;exact⟨z,us,0,r,Ap _ rfl⟩
end
noncomputable abbrev Sp:=List V->Hp->VK->XK->Prop
noncomputable abbrev CXT:=List Env->Hp->AJ->XK->AF->AJ->Prop
structure Env0(P:Ai)(w:Ax)(K:AO)(mg:Str->Option AF)(base:BC)(A:BL)(outer:List Env)(s:AJ)(H:Hp):Prop where
 frames:A.frames=AA outer
 mod:Mod K mg base
 bs:∀b o,base.get? b=AA o->s.heap.get? b=AA o∧H b=AE
 bsz:base.objs.size<=s.heap.objs.size
 funs:s.heap.FunFrames base outer
 frf:∀b∈frs outer,H b=AE
 hok:HOk P w H s.heap
 bare:GF s.gens
noncomputable def CE(outer:List Env)(P:Ai)(w:Ax)(H:Hp)(s:AJ)(Q:VK)(u:AF)(s':AJ):Prop:=
 ∃v H',s'.os=s.os∧GF s'.gens∧Un (frs outer) [] H H' s.heap s'.heap∧HOk P w H' s'.heap∧f9 v u∧Q v H'
noncomputable def CR(CX:CXT)(outer:List Env)(P:Ai)(w:Ax)(H:Hp)(s:AJ)(Q:VK)(E:XK)(r:Hx)(s':AJ):Prop:=
 match r with
 |.ok (.ret u)=>CE outer P w H s Q u s'
 |.ok _=>False
 |.error e=>CX outer H s E e s'
structure FnOk(P:Ai)(w:Ax)(K:AO)(mg:Str->Option AF)(base:BC)(CX:CXT)(k:Nat)(f:AI)(fd:Ba)(ps:List Str)(sp:Sp):Prop where
 len:∀vs H Q E,sp vs H Q E->vs.length=ps.length
 run:∀(A:BL)(outer:List Env)(s:AJ)(H:Hp)(args:Args)(us:List AF)(vs:List V)(Q:VK)(E:XK),Room k A->Env0 P w K mg base A outer s H->GM s fd args (ps.zip us)->f7 vs us->sp vs H Q E ->
  Dq (model P w) A (.call (.ref f) args) (CR CX outer P w H s Q E) s
def Env0.make{P:Ai}{w:Ax}{K:AO}{mg:Str->Option AF}{base:BC}{outer:List Env}(e:Env0 P w K mg base A outer s H)(C:AI)(us:List AF)(kw:List (Str×AF)):
  Env0 P w K mg base (A.under (.builtin "type.__call__" ⟨.ref C::us,kw⟩)) outer s H:=⟨by first|exact e.frames|(simpa[Gf,Code.envs,Gu,pushEnvs]using e.frames),e.mod,e.bs,e.bsz,e.funs,e.frf,e.hok,e.bare⟩
section
variable {s':AJ}
def Inv.env0(I:Inv X pins σ H s):Env0 X.prog X.w X.K X.mg X.base X.A X.stack s H:=
 ⟨I.ok.frames,I.ok.mod,I.bs,BF I.ok.bsz I.sz,I.stack,I.stkFree,I.hok,I.bare⟩
def Inv.after{u:AF}(I:Inv X pins σ H s)(h:CE X.stack X.prog X.w H s Q u s'):EP X pins σ Q u s':=by
 obtain⟨v,H',os,bare,un,hok,r,q⟩:=h;obtain⟨hh,g,d,t,os'⟩:=s';obtain rfl:os'=s.os:=os;exact⟨v,H',I.call (h':=hh) (g':=g) (d':=d) (t':=t) (ch:=[]) un hok bare (λb z=>absurd z (by simp)),r,q⟩
end
noncomputable def c05(sp:Sp)(dvs:List V)(E:XK)(t:TA):TE:=λσ H Q=>t σ H λvs H1=>sp (vs++dvs) H1 Q E
noncomputable def bm0(C:AI)(sp:Sp)(dvs:List V)(E:XK)(t:TA):TE:=λσ H Q=>t σ H λvs H1=>∀x dx,H1 x=AE->H1 dx=AE->dx≠x ->
 sp (.ref x::(vs++dvs)) (upd (upd H1 dx (.own x)) x (.ins C dx [])) (λv H2=>v=.non∧Q (.ref x) H2) E
noncomputable def p8(K:AO)(fd:Ba)(ps:List Str)(ds:List AF):Prop:=
 ∀(s:AJ)(us:List AF),K.In s.heap->(us++ds).length=ps.length->GM s fd ⟨us,[]⟩ (ps.zip (us++ds))
def p8.all{K:AO}{fd:Ba}(h:∀us:List AF,us.length=ps.length->BX fd ⟨us,[]⟩=pure (ps.zip us)):p8 K fd ps []:=λs us _ hl=>by
 rw[BP]at hl ⊢;exact .of_eq (h us hl)
noncomputable def R7(CX:CXT)(X:Cx)(E:XK):Prop:=∀(pins:List (AI×Obj))(σ:St)(H:Hp)(s:AJ)(e:AF)(s':AJ),Inv X pins σ H s->CX X.stack H s E e s'->X.xe e s'
section
variable {CX:CXT} {k:Nat} {f:AI} {fd:Ba} {sp:Sp} {dvs:List V} {ds:List AF} {E:XK} {m:Str} {p pos apos:Pos} {e o:AS} {es:List AS} {ta:TE} {t:TA}
def O1(F:FnOk X.prog X.w X.K X.mg X.base CX k f fd ps sp)(hr:Room k X.A)(hb:p8 X.K fd ps ds)(hd:f7 dvs ds)(hx:R7 CX X E)
  (I:Inv X pins σ H s) (r:f7 vs us) (h:sp (vs++dvs) H Q E):AT (model X.prog X.w) X.A (call (.ref f) us) (EP X pins σ Q) X.xe s:=by
 have r2:f7 (vs++dvs) (us++ds):=r.append hd;have hl:(us++ds).length=ps.length:=by rw[<-r2.length];exact F.len _ _ _ _ h
 refine wpAny_call (GN (F.run X.A X.stack s H ⟨us,[]⟩ (us++ds) (vs++dvs) Q E hr I.env0 (hb s us I.kIn hl) r2 h) λr s' hq=>?_);cases r with
 |error e=>exact hx pins σ H s e s' I hq
 |ok fl=>
  cases fl with
  |ret u=>exact I.after hq
  |next=>exact AZ hq
  |brk=>exact AZ hq
  |cont=>exact AZ hq
def ck4(F:FnOk X.prog X.w X.K X.mg X.base CX k f fd ps sp)(hr:Room k X.A)(hg:Gl X x)(hm:X.mg x=AA (.ref f))(hk:Bh X.K (.ref f)=AC)(hb:p8 X.K fd ps ds)(hd:f7 dvs ds)(hx:R7 CX X E)
  (ha:PA X (e::es) t) (hdb:(x==("__debug__":Str))=AG:=by decide) (he:Ak (e::es) X.env=(AG,eval e X.env)::Ak es X.env:=by rfl) (hpl:(Bm pos (Ak es X.env)).any (·.1)=AG:=by rfl) :
  PE X (.Call (.Name x p) (e::es) [] pos) (c05 sp dvs E t):=by
 intro pins s σ H Q I h;refine Bw (Q1 I hg hm ?_ hdb);refine Dl (h₀:=X.base) I.ok.mod.kin hk (thn (ha pos pins s σ H _ I h) λus s1⟨vs,H1,I1,r,q⟩=>⟨I1.kIn,?_⟩) he hpl;exact O1 F hr hb hd hx I1 r q
structure Mk(K:AO)(C f:AI):Prop where
 makes:HU K C=AC
 init:BS K (.ref C) "__init__"=AA (AA (.ref f))
 fn:Hd K (.ref f)=AC
 kp:Bh K (.ref C)=AC
def a02(M:Mk X.K C f)(F:FnOk X.prog X.w X.K X.mg X.base CX k f fd ps sp)(hr:Room (k+1) X.A)(hb:p8 X.K fd ps ds)(hd:f7 dvs ds)
  (hx:R7 CX X E) (I:Inv X pins σ H s) (r:f7 vs us)
  (h:∀x dx,H x=AE->H dx=AE->dx≠x->sp (.ref x::(vs++dvs)) (upd (upd H dx (.own x)) x (.ins C dx [])) (λv H2=>v=.non∧Q (.ref x) H2) E) :
  AT (model X.prog X.w) X.A (call (.ref C) us) (EP X pins σ Q) X.xe s:=by
 have hq:=h (s.heap.objs.size+1) s.heap.objs.size (I.hok.fresh (Gv _)) (I.hok.fresh (AU _)) (BJ (GL _));have I2:=Inv.made (C:=C) I;have r2:f7 (V.ref (s.heap.objs.size+1)::(vs++dvs)) (An (s.heap.objs.size+1)::(us++ds)):=.cons rfl (r.append hd);have hl:(An (s.heap.objs.size+1)::us++ds).length=ps.length:=by
  have e:=r2.length;rw[F.len _ _ _ _ hq]at e;exact e.symm
 refine wpAny_call (cb8 (f:=f) I.kIn M.makes M.init (beq_iff_eq.mp M.fn) (GN (F.run _ X.stack _ _ ⟨An (s.heap.objs.size+1)::us,[]⟩ (An (s.heap.objs.size+1)::(us++ds)) _ _ E (hr.make C us [])
  (I2.env0.make C us []) (hb _ (An (s.heap.objs.size+1)::us) I2.kIn hl) r2 hq) λr s' hq'=>?_))
 cases r with
 |error e=>exact hx pins σ _ _ e s' I2 hq'
 |ok fl=>
  cases fl with
  |ret u=>
   obtain⟨v,H',I3,rv,ev,q3⟩:=I2.after hq';subst ev;exact⟨rv,⟨V.ref (s.heap.objs.size+1),H',I3,rfl,q3⟩⟩
  |next=>exact AZ hq'
  |brk=>exact AZ hq'
  |cont=>exact AZ hq'
def cg0(M:Mk X.K C f)(F:FnOk X.prog X.w X.K X.mg X.base CX k f fd ps sp)(hr:Room (k+1) X.A)(hg:Gl X x)(hm:X.mg x=AA (.ref C))(hb:p8 X.K fd ps ds)(hd:f7 dvs ds)(hx:R7 CX X E)
  (ha:PA X (e::es) t) (hdb:(x==("__debug__":Str))=AG:=by decide) (he:Ak (e::es) X.env=(AG,eval e X.env)::Ak es X.env:=by rfl) (hpl:(Bm pos (Ak es X.env)).any (·.1)=AG:=by rfl) :
  PE X (.Call (.Name x p) (e::es) [] pos) (bm0 C sp dvs E t):=by
 intro pins s σ H Q I h;refine Bw (Q1 I hg hm ?_ hdb);refine Dl (h₀:=X.base) I.ok.mod.kin M.kp (thn (ha pos pins s σ H _ I h) λus s1⟨vs,H1,I1,r,q⟩=>⟨I1.kIn,?_⟩) he hpl;exact a02 M F hr hb hd hx I1 r q
def b56(M:Mk X.K C f)(F:FnOk X.prog X.w X.K X.mg X.base CX k f fd ps sp)(hr:Room (k+1) X.A)(hg:Gl X x)(hm:X.mg x=AA (.ref C))(hb:p8 X.K fd ps ds)(hd:f7 dvs ds)(hx:R7 CX X E)
  (hdb:(x==("__debug__":Str))=AG:=by decide):PE X (.Call (.Name x p) [] [] pos) (bm0 C sp dvs E ar2):=by
 intro pins s σ H Q I h;refine Bw (Q1 I hg hm ?_ hdb);exact KC I.kIn M.kp (a02 (us:=[]) M F hr hb hd hx I .nil h)
end
structure FnScope(N P:List Str)(sc:BH):Prop where
 kind:sc.kind=.function
 co:sc.isCoroutine=AG
 gen:sc.isGenerator=AG
 nd:N.Nodup
 pre:N.take P.length=P
 par:∀x∈P,sc.names.lookup x=AA .local∨sc.names.lookup x=AA .cell
 nofree:∀y∈sc.names,y.2≠.free
theorem av4:∀{binds:List (Str×AF)}{m:Str->Option AF},(∀v,(x,v)∉binds)->Hn kindOf binds m x=m x
 |[],_,_=>rfl
 |(n,v)::r,m,h=>by
  unfold Hn;rw[av4 λw hw=>h w (Ao _ hw)]
  split
  ·have:x≠n:=by rintro rfl;exact h v Br
   simp[this]
  ·rfl
theorem av7:∀{binds:List (Str×AF)}{m:Str->Option AF},(∀v,(x,v)∉binds)->Ho kindOf binds m x=m x
 |[],_,_=>rfl
 |(n,v)::r,m,h=>by
  unfold Ho;rw[av7 λw hw=>h w (Ao _ hw)]
  split
  ·rfl
  ·have:x≠n:=by rintro rfl;exact h v Br
   simp[this]
theorem aw5{v:AF}:∀{P:List Str}{vs:List AF}{i:Nat}{m:Str->Option AF},P.Nodup->P[i]?=AA x->vs[i]?=AA v->kindOf x=AA .local ->
  Hn kindOf (P.zip vs) m x=AA v
 |[],_,_,_,_,h,_,_=>by simp at h
 |_::_,[],_,_,_,_,h,_=>by simp at h
 |p::P,w::vs,0,m,nd,h1,h2,hk=>by
  simp at h1 h2;subst h1;subst h2;show Hn kindOf ((p,w)::P.zip vs) m p=_;unfold Hn;rw[av4 λv hv=>(BM.mp nd).1 (Fs hv).1,if_pos hk];simp
 |p::P,w::vs,i+1,m,nd,h1,h2,hk=>by
  show Hn kindOf ((p,w)::P.zip vs) m x=_;unfold Hn;exact aw5 (i:=i) (BM.mp nd).2 (by simpa using h1) (by simpa using h2) hk
theorem aw1{v:AF}:∀{P:List Str}{vs:List AF}{i:Nat}{m:Str->Option AF},P.Nodup->P[i]?=AA x->vs[i]?=AA v->kindOf x≠AA .local ->
  Ho kindOf (P.zip vs) m x=AA v
 |[],_,_,_,_,h,_,_=>by simp at h
 |_::_,[],_,_,_,_,h,_=>by simp at h
 |p::P,w::vs,0,m,nd,h1,h2,hk=>by
  simp at h1 h2;subst h1;subst h2;show Ho kindOf ((p,w)::P.zip vs) m p=_;unfold Ho;rw[av7 λv hv=>(BM.mp nd).1 (Fs hv).1,if_neg hk];simp
 |p::P,w::vs,i+1,m,nd,h1,h2,hk=>by
  show Ho kindOf ((p,w)::P.zip vs) m x=_;unfold Ho;exact aw1 (i:=i) (BM.mp nd).2 (by simpa using h1) (by simpa using h2) hk
noncomputable def v6(N:List Str)(vs:List V):St:=vs.map AA++AX (N.length-vs.length) AE
noncomputable def ac7(CX:CXT)(P:Ai)(w:Ax)(K:AO)(mg:Str->Option AF)(base:BC)(N:List Str)(qual:Str)(scope:BH)(f:AI)(cd:AF)(A:BL)(outer:List Env)(s:AJ)(H:Hp)(E:XK):Cx where
 prog:=P
 w:=w
 K:=K
 mg:=mg
 base:=base
 A:=A.deeper (GY qual scope s.heap.objs.size f cd)
 N:=N
 s₀:=s
 H₀:=H
 env:=GY qual scope s.heap.objs.size f cd
 outer:=outer
 stack:=GY qual scope s.heap.objs.size f cd::outer
 ex:=[]
 calm:=AC
 fn:=λ_=>AC
 pn:=[]
 xe:=λe s'=>AT (model P w) (A.deeper (GY qual scope s.heap.objs.size f cd)) (leaving (GY qual scope s.heap.objs.size f cd) e) (λ_ s''=>CX outer H s E e s'') (λe' s''=>CX outer H s E e' s'') s'
def ay1{sc:BH}{n:Nat}(h:sc.names.lookup x=AA .cell):∃c,(Jl n sc.names []).lookup x=AA c:=by
 have q:=JG sc.names n [] (.inl h);exact BW.mp q
def b16{CX:CXT}{P:Ai}{w:Ax}{K:AO}{mg:Str->Option AF}{base:BC}{N:List Str}{qual:Str}{scope:BH}{f:AI}{cd:AF}{outer:List Env}{s1:AJ}{E:XK}
  (S:FnScope N ps scope) (hd:A.handled=AE) (e0:Env0 P w K mg base A outer s H) (hl:vs.length=ps.length) (r:f7 vs us)
  (x:InCallC s s.heap.objs.size (Hn (GY qual scope s.heap.objs.size f cd).kindOf (ps.zip us) λ_=>AE) (Jl (s.heap.objs.size+1) scope.names []) (Ho (GY qual scope s.heap.objs.size f cd).kindOf (ps.zip us) λ_=>AE) s1) :
  Inv (ac7 CX P w K mg base N qual scope f cd A outer s H E) [] (v6 N vs) H s1:=by
 have hpl:ps.length<=N.length:=by have:=congrArg Fu S.pre;rw[DD]at this;lia
 obtain ⟨h1,tk,rfl,hk⟩:=x.done;have noA:∀ b:AI,b ∉ (ac7 CX P w K mg base N qual scope f cd A outer s H E).ex:=λb z=>absurd (show b ∈ ([]:List AI) from z) (by simp);refine ⟨⟨e0.mod,S.kind,rfl,rfl,AU _,λy z c h1 h2=>?_,λy hy=>?_,λy c _ h=>?_,λ_=>hd,Gw e0.frames,.inr ⟨rfl,rfl⟩,λb z=>absurd z (noA b),e0.bs,e0.bsz,λb _ _=>noA b,λb z=>absurd z (noA b),e0.funs,e0.frf⟩,
  rfl,e0.bare,Un.kept hk,⟨_,x.toInCall.ns,λi y v h1 h2 h3=>?_⟩,λy c h=>⟨_,x.cell y c h⟩,e0.hok.fresh (AU _),λy c h=>?_,λp hp=>absurd (show p ∈ ([]:List (AI × Obj)) from hp) (by simp),e0.hok.kept hk,?_⟩
 ·exact name_of_addr x.apart (PySem.mem_of_lookup h1) (PySem.mem_of_lookup h2)
 ·have hy:scope.names.lookup y=AA .cell∨scope.names.lookup y=AA .free:=hy
  rcases hy with hy|hy
  ·exact ay1 hy
  ·exact absurd rfl (S.nofree _ (PySem.mem_of_lookup hy))
 ·exact GH (x.above y c (PySem.mem_of_lookup h))
 ·have hi:i<vs.length:=by
   unfold v6 at h2
   by_cases hi:i<vs.length
   ·exact hi
   ·rw[Aj (by simpa using hi)]at h2;rw[Cz]at h2
    split at h2<;>cases h2
  have ha:vs[i]?=AA v:=by
   unfold v6 at h2;rw[Ad (by simpa using hi),Am]at h2;cases e:vs[i]? with
   |none=>rw[e]at h2;cases h2
   |some a=>rw[e]at h2;cases h2;rfl
  obtain⟨u,hu,rv⟩:=r.get ha;have hp:ps[i]?=AA y:=by
   rw[<-S.pre,Gg (by lia)];exact h1
  have ndP:ps.Nodup:=by rw[<-S.pre];exact S.nd.sublist (Hy _ _)
  refine⟨u,rv,?_⟩
  rcases S.par y (BE hp)with k|k
  ·exact .inl ⟨k,aw5 ndP hp hu k⟩
  ·obtain⟨c,e⟩:=ay1 (n:=s.heap.objs.size+1) k;refine .inr ⟨.inl k,c,e,?_⟩;have q:=x.cell y c e;rw[aw1 ndP hp hu (by show scope.names.lookup y≠_;rw[k];decide)]at q;exact q
 ·exact .inl (e0.hok.fresh (GH (x.above y c (PySem.mem_of_lookup h))))
 ·unfold v6;show _=N.length;rw[Ac,AV,DV];lia
end L2
namespace L2
open PySem PySem.Spec PyProof.Rows
section
variable {X:Cx} {x:Str} {p pos:Pos} {e:AS} {es:List AS} {t:TA} {id T:String} {r:List V->Hp->VK->Prop}
noncomputable def tCB(r:List V->Hp->VK->Prop)(t:TA):TE:=λσ H Q=>t σ H λvs H1=>r vs H1 Q
def aj2(hc:E4 X (.builtin id) r)(hg:Gl X x)(hm:X.mg x=AE)(hv:BA x=AA (.builtin id))(ha:PA X (e::es) t)(hn:x≠"__name__":=by decide)(hdb:(x==("__debug__":Str))=AG:=by decide)
  (he:Ak (e::es) X.env=(AG,eval e X.env)::Ak es X.env:=by rfl) (hpl:(Bm pos (Ak es X.env)).any (·.1)=AG:=by rfl):PE X (.Call (.Name x p) (e::es) [] pos) (tCB r t):=by
 intro pins s σ H Q I h;refine Bw (F5 I hg hm hv ?_ hn hdb);exact KD (thn (ha pos pins s σ H _ I h) λus s1⟨vs,H1,I1,r1,q1⟩=>hc pins s1 σ H1 vs us Q I1 r1 q1) he hpl
def b52(hc:E4 X (.type T) r)(hg:Gl X x)(hm:X.mg x=AE)(hv:BA x=AA (.type T))(ha:PA X (e::es) t)(hn:x≠"__name__":=by decide)(hdb:(x==("__debug__":Str))=AG:=by decide)
  (he:Ak (e::es) X.env=(AG,eval e X.env)::Ak es X.env:=by rfl) (hpl:(Bm pos (Ak es X.env)).any (·.1)=AG:=by rfl):PE X (.Call (.Name x p) (e::es) [] pos) (tCB r t):=by
 intro pins s σ H Q I h;refine Bw (F5 I hg hm hv ?_ hn hdb);exact BB (thn (ha pos pins s σ H _ I h) λus s1⟨vs,H1,I1,r1,q1⟩=>hc pins s1 σ H1 vs us Q I1 r1 q1) he hpl
end
end L2
namespace HT
open PySem PyProof.Rows
section
open PySem.SeqAt
open PySem.AutoSeq1 (wpAny_loadPart')
open PySem.MeetsSeq PySem.MeetsSeq2 PySem.MeetsSeq3
end
section
variable {prog:Ai} {w:Ax} {A:BL} {E:AF->AJ->Prop} {s:AJ}
def cat_tup{t b:AI}{vs ws:List AF}{Q:AF->AJ->Prop}(ht:HJ s.heap t vs.toArray)(hb:HJ s.heap b ws.toArray)(hv:vs≠[])
  (h1:ws=[]->Q (.ref t) s) (h2:ws≠[]->Q (.ref s.heap.objs.size) {s with heap:=s.heap.push {cls:=.type "tuple",data:=.seq (vs++ws).toArray}})
  (hsz:vs.length+ws.length<=sizeLine):AT (model prog w) A (Co .Add (.ref t) (.ref b)) Q E s:=by
 obtain⟨⟨cls,dd,data,sl⟩,ho,hc,n,hd⟩:=id ht;obtain⟨⟨cls2,dd2,data2,sl2⟩,ho2,hc2,n2,hd2⟩:=id hb;simp only at hc hd hc2 hd2;subst hc hd hc2 hd2;have e:vs.toArray++ws.toArray=(vs++ws).toArray:=by simp
 by_cases hw:ws=[]
 ·exact Hz ⟨_,ho,rfl⟩ ⟨_,ho2,rfl⟩ GZ He PySem.F.slot_tuple_add PySem.F.entry_tuple_add (PySem.F.args_tuple_add_2 _ _)
   (tuple_addW1 t b vs.toArray ws.toArray n n2 dd dd2 sl sl2 (by simpa using hv) (by simp[hw])) ⟨ho,ho2,h1 hw⟩
 ·refine Hz ⟨_,ho,rfl⟩ ⟨_,ho2,rfl⟩ GZ He PySem.F.slot_tuple_add PySem.F.entry_tuple_add (PySem.F.args_tuple_add_2 _ _)
   (tuple_addW2 t b vs.toArray ws.toArray n n2 dd dd2 sl sl2 (by simpa using hv) (by simpa using hw) (by rw[AY,AY];exact hsz)) ⟨ho,ho2,?_⟩
  rw[e];exact h2 hw
noncomputable def sIx(n d:Nat):Option Int->Nat
 |none=>d
 |some v=>if v<0 then(v+(n:Int)).toNat else min v.toNat n
def bj2(n d:Nat)(hd:d<=n)(o:Option Int):sIx n d o<=n:=by
 cases o with
 |none=>exact hd
 |some v=>
  show(if v<0 then(v+(n:Int)).toNat else min v.toNat n)<=n
  by_cases hv:v<0
  ·rw[if_pos hv];lia
  ·rw[if_neg hv];exact Dr _ _
def a88(v:Int)(n d:Nat):(if v<0 then max (v+(n:Int)) 0 else min v (n:Int))=((sIx n d (AA v):Nat):Int):=by
 show(if v<0 then max (v+(n:Int)) 0 else min v (n:Int))=(((if v<0 then(v+(n:Int)).toNat else min v.toNat n):Nat):Int)
 by_cases hv:v<0
 ·simp only[if_pos hv];lia
 ·simp only[if_neg hv];lia
def by8(lo hi:Option Int)(n:Nat):DI lo hi 1 (n:Int)=(((sIx n 0 lo:Nat):Int),((sIx n n hi:Nat):Int)):=by
 have h1:¬((1:Int)<0):=by lia
 unfold DI;simp only[h1,if_false];refine Prod.ext ?_ ?_
 ·cases lo with
  |none=>rfl
  |some v=>exact a88 v n 0
 ·cases hi with
  |none=>rfl
  |some v=>exact a88 v n n
def b08(i j:Nat):CP (i:Int) (j:Int) 1=j-i:=by
 unfold CP;have h1:(1:Int)>0:=by lia
 simp only[h1,if_true,Int.ediv_one]
 split<;>lia
def au1{v:AF}{o:Option Int}{Q:Option Int->AJ->Prop}(p:FQ v o)(h:Q o s):AT (model prog w) A (Jm v) Q E s:=by
 cases p with
 |none=>exact KU h
 |int i t=>exact slicePart_int h
def ar6{sl:AI}{vl vu:AF}{lo hi:Option Int}{n:Nat}{Q:Int×Int×Nat->AJ->Prop}(hs:s.heap.IsSliceOf sl vl vu .none)(pl:FQ vl lo)(pu:FQ vu hi)
  (h:Q (((sIx n 0 lo:Nat):Int),1,sIx n n hi-sIx n 0 lo) s):AT (model prog w) A (FB (.ref sl) (pure (n:Int))) Q E s:=by
 obtain⟨os,hos,hcs,hds⟩:=id hs;unfold FB Jn;refine AD (AD (BG hos hds (x:=vl) rfl (AD (BG hos hds (x:=vu) rfl (AD (BG hos hds (x:=.none) rfl (AK ?_)))))));refine AD (KU ?_);show AT _ _ (if((1:Int)==0)=AC then _ else _) _ _ s;rw[if_neg (by decide)];refine AD (au1 pl (AD (au1 pu (AD (AK ?_)))));show AT _ _ (match DI lo hi 1 (n:Int)with|(lo,hi)=>pure (lo,(1:Int),CP lo hi 1)) _ _ s;rw[by8 lo hi n];show AT _ _ (pure (((sIx n 0 lo:Nat):Int),(1:Int),CP ((sIx n 0 lo:Nat):Int) ((sIx n n hi:Nat):Int) 1)) _ _ s;rw[b08];exact AK h
def cc1(xs:Array AF)(i k:Nat):((Cs k).filterMap λ(m:Nat)=>xs[((i:Int)+(m:Int)*1).toNat]?).toArray=((xs.toList.drop i).take k).toArray:=by
 have e:(λ(m:Nat)=>xs[((i:Int)+(m:Int)*1).toNat]?)=λm=>xs[i+m]?:=by
  funext m
  have:((i:Int)+(m:Int)*1).toNat=i+m:=by lia
  rw[this]
 rw[e];have:=pick_run xs i k;rw[List.filterMap_map]at this;have e2:((λx=>xs[x]?)∘λx=>i+x)=λm=>xs[i+m]?:=rfl;rw[e2]at this;rw[this]
def getItem_tuple_cut{t sl:AI}{items:Array AF}{vl vu:AF}{lo hi:Option Int}{Q:AF->AJ->Prop}(ht:HJ s.heap t items)(hs:s.heap.IsSliceOf sl vl vu .none)(pl:FQ vl lo)(pu:FQ vu hi)
  (hw:¬(sIx items.size 0 lo=0∧sIx items.size items.size hi=items.size))
  (h:Q (.ref s.heap.objs.size) {s with heap:=s.heap.push {cls:=.type "tuple",data:=.seq ((items.toList.drop (sIx items.size 0 lo)).take (sIx items.size items.size hi-sIx items.size 0 lo)).toArray}})
  (hsz:items.size<=sizeLine):AT (model prog w) A (Da (.ref t) (.ref sl)) Q E s:=by
 have htake:sizeOk (.seq ((items.toList.drop (sIx items.size 0 lo)).take (sIx items.size items.size hi-sIx items.size 0 lo)).toArray):=by
  show((items.toList.drop (sIx items.size 0 lo)).take (sIx items.size items.size hi-sIx items.size 0 lo)).toArray.size<=sizeLine;rw[AY,DD,EN,El];lia
 have hj:sIx items.size items.size hi<=items.size:=bj2 _ _ (AU _) hi;obtain⟨os,hos,hcs,hds⟩:=id hs;have hTs:s.TypeIs (.ref sl) "slice":=⟨os,hos,hcs⟩;unfold Da
 try with_reducible refine Bs ?_
 first|refine AD (AK ?_)|skip
 refine AD (GO ht.typeIs (by decide) ?_);refine AD (BK (name:=Ab "__getitem__") ht.typeIs BN
  (BI BN ht.typeIs Ir ?_ (JH _ _)))
 show AT _ _ (CJ (.ref t)>>=_) _ _ s;refine AD (tupleItemsOf_ ht ?_);refine AD (Ds hTs ?_);rw[if_pos (by decide)];refine AD (ar6 hs pl pu ?_);have hno:¬((((sIx items.size 0 lo:Nat):Int)==0&&(1:Int)==1&&(sIx items.size items.size hi-sIx items.size 0 lo)==items.size)=AC):=by
  intro q;rw[At,At]at q;have q1:((sIx items.size 0 lo:Nat):Int)=0:=eq_of_beq q.1.1;have q2:sIx items.size items.size hi-sIx items.size 0 lo=items.size:=eq_of_beq q.2;exact hw ⟨by lia,by lia⟩
 show AT _ _ (if(((sIx items.size 0 lo:Nat):Int)==0&&(1:Int)==1&&(sIx items.size items.size hi-sIx items.size 0 lo)==items.size)=AC then _ else _) _ _ s;rw[if_neg hno,cc1]
 first
  |exact AD (m:=CS _) (BY (AK ⟨_,rfl,AK h⟩) htake)
  |exact AD (m:=CS _) (BY (AD (AK (AK ⟨_,rfl,AK h⟩))) htake)
  |exact AD (AD (m:=CS _) (BY (AK (AK ⟨_,rfl,AK h⟩)) htake))
  |exact AD (AD (m:=CS _) (BY (AK ⟨_,rfl,AK h⟩) htake))
end
end HT
namespace L2
open PySem PySem.Spec PyProof.Rows
noncomputable abbrev TO:=St->Hp->(Option Int->Hp->Prop)->Prop
noncomputable def PO(X:Cx)(e:Option AS)(t:TO):Prop:=
 ∀(pins:List (AI×Obj))(s:AJ)(σ:St)(H:Hp)(Q:Option Int->Hp->Prop),Inv X pins σ H s->t σ H Q ->
  AT (model X.prog X.w) X.A (evalPart e X.env) (λu s'=>∃o H',Inv X pins σ H' s'∧FQ u o∧Q o H') X.xe s
noncomputable def cc5:TO:=λ_ H Q=>Q AE H
noncomputable def cy8(t:TE):TO:=λσ H Q=>t σ H λx H1=>∃i,x=.int i∧Q (AA i) H1
def b03{ns:List Int}:∀{us:List AF},f7 (ns.map V.int) us->GP us ns:=by
 induction ns with
 |nil=>intro us r;rw[Cq]at r;cases r;exact .nil
 |cons n ns ih=>
  intro us r;rw[Aa]at r;cases r with
  |cons r1 r2=>
   obtain⟨t,e⟩:=r1;subst e;exact .cons n t (ih r2)
section
variable {X:Cx} {e:AS} {te:TE} {lo hi:Option AS} {tl th:TO} {pos p2:Pos}
def cd8:PO X AE cc5:=by
 intro pins s σ H Q I h;rw[evalPart_none];exact AK ⟨AE,H,I,.none,h⟩
def cg4(h:PE X e te):PO X (AA e) (cy8 te):=by
 intro pins s σ H Q I hw;rw[evalPart_some];refine thn (h pins s σ H _ I hw) λu s1⟨x,H1,I1,r1,q1⟩=>?_;obtain⟨i,rfl,q⟩:=q1;obtain⟨t,rfl⟩:=r1;exact⟨AA i,H1,I1,.int i t,q⟩
noncomputable def SlR(X:Cx)(r:V->Option Int->Option Int->Hp->VK->Prop):Prop:=
 ∀(pins:List (AI×Obj))(s:AJ)(σ:St)(H:Hp)(x:V)(v vl vu:AF)(lo hi:Option Int)(sl:AI)(Q:VK),Inv X pins σ H s->f9 x v->s.heap.IsSliceOf sl vl vu .none->FQ vl lo->FQ vu hi->r x lo hi H Q ->
  ∃T id,Fv (.type T) "__getitem__"=pure (AA (.builtin id))∧s.TypeIs v T∧AT (model X.prog X.w) X.A (Da v (.ref sl)) (EP X pins σ Q) X.xe s
def SlR.or{r r':V->Option Int->Option Int->Hp->VK->Prop}(h:SlR X r)(h':SlR X r'):SlR X (λx lo hi H Q=>r x lo hi H Q∨r' x lo hi H Q):=by
 intro pins s σ H x v vl vu lo hi sl Q I rx hs pl pu q
 rcases q with q|q
 ·exact h pins s σ H x v vl vu lo hi sl Q I rx hs pl pu q
 ·exact h' pins s σ H x v vl vu lo hi sl Q I rx hs pl pu q
noncomputable def tSl(r:V->Option Int->Option Int->Hp->VK->Prop)(te:TE)(tl th:TO):TE:=λσ H Q=>te σ H λx H1=>tl σ H1 λl H2=>th σ H2 λu H3=>r x l u H3 Q
def ay5{r:V->Option Int->Option Int->Hp->VK->Prop}(hr:SlR X r)(he:PE X e te)(hl:PO X lo tl)(hu:PO X hi th):PE X (.Subscript e (.Slice lo hi AE p2) pos) (tSl r te tl th):=by
 intro pins s σ H Q I h;refine JI (thn (he pins s σ H _ I h) λv s1⟨x,H1,I1,r1,q1⟩=>?_);refine wpAny_Slice (thn (hl pins s1 σ H1 _ I1 q1) λvl s2⟨l,H2,I2,pl,q2⟩=>thn (hu pins s2 σ H2 _ I2 q2) λvu s3⟨u,H3,I3,pu,q3⟩=>?_);rw[evalPart_none];refine AK ?_;have I4:Inv X pins σ H3 {s3 with heap:=s3.heap.push {cls:=.type "slice",data:=.fields #[vl,vu,.none]}}:=I3.kept (t':=s3.toks) λb ob q=>AQ _ q;obtain⟨T,id,hT,ht,hg⟩:=hr pins {s3 with heap:=s3.heap.push {cls:=.type "slice",data:=.fields #[vl,vu,.none]}} σ H3 x v vl vu l u s3.heap.objs.size Q I4 r1 (JT ..) pl pu q3;show AT (model X.prog X.w) X.A (Fn e (.Slice lo hi AE p2) v (.ref s3.heap.objs.size)) (EP X pins σ Q) X.xe {s3 with heap:=s3.heap.push {cls:=.type "slice",data:=.fields #[vl,vu,.none]}};exact tail_any (ops:=[.ref s3.heap.objs.size,v]) ht hT hg (by with_unfolding_all rfl)
noncomputable def M9(xs:List V)(lo hi:Option Int):List V:=(xs.drop (HT.sIx xs.length 0 lo)).take (HT.sIx xs.length xs.length hi-HT.sIx xs.length 0 lo)
def as8(xs:List V)(lo hi:Option Int):(M9 xs lo hi).length<=xs.length:=by
 unfold M9;rw[DD,EN];lia
noncomputable def c25(K:AO):V->Option Int->Option Int->Hp->VK->Prop:=λx lo hi H Q=>∃a xs,x=.ref a∧SqT K H a xs ∧
 ¬(HT.sIx xs.length 0 lo=0∧HT.sIx xs.length xs.length hi=xs.length)∧∀p,H p=AE->Q (.ref p) (upd H p (.tup (M9 xs lo hi)))
def bc1:SlR X (c25 X.K):=by
 intro pins s σ H x v vl vu lo hi sl Q I rx hs pl pu h;obtain⟨a,xs,rfl,hx,hw,q⟩:=h;cases rx;obtain⟨its,r,ht,hz⟩:=I.tuple hx;have hlen:its.toArray.size=xs.length:=by rw[AY];exact r.length.symm
 refine⟨"tuple",_,BN.lookup,ht.typeIs,?_⟩;refine HT.getItem_tuple_cut ht hs pl pu (by rw[hlen];exact hw) ?_ (by rw[hlen];exact hz);rw[hlen];refine⟨.ref s.heap.objs.size,_,I.laid (t':=s.toks) (o:=.tup (M9 xs lo hi)) (λb ob q=>AQ _ q) (AU _) ?_,rfl,q _ (I.hok.fresh (AU _))⟩;exact⟨BF (as8 xs lo hi) hz,_,(r.drop (HT.sIx xs.length 0 lo)).take (HT.sIx xs.length xs.length hi-HT.sIx xs.length 0 lo),C3.new _ _⟩
noncomputable def cz0(K:AO):R2:=λx y H Q=>∃a b xs ys,x=.ref a∧y=.ref b∧SqT K H a xs∧SqT K H b ys∧xs≠[]∧xs.length+ys.length<=sizeLine ∧
 (ys=[]->Q (.ref a) H)∧(ys≠[]->∀p,H p=AE->Q (.ref p) (upd H p (.tup (xs++ys))))
def f7.nil_iff{xs:List V}{us:List AF}(r:f7 xs us):us=[]↔xs=[]:=by
 cases r with
 |nil=>simp
 |cons _ _=>simp
def ck0:OpR X (Co .Add) (cz0 X.K):=by
 intro pins s σ H x y v u Q I rx ry h;obtain⟨a,b,xs,ys,rfl,rfl,ha,hb,hx,hz,q1,q2⟩:=h;cases rx;cases ry;obtain⟨its,r1,p1,_⟩:=I.tuple ha;obtain⟨its2,r2,p2,_⟩:=I.tuple hb;refine HT.cat_tup p1 p2 (λz=>hx (r1.nil_iff.mp z)) (λz=>⟨.ref a,H,I,rfl,q1 (r2.nil_iff.mp z)⟩) (λz=>?_) (by rw[<-r1.length,<-r2.length];exact hz);refine⟨.ref s.heap.objs.size,_,I.laid (t':=s.toks) (o:=.tup (xs++ys)) (λb ob q=>AQ _ q) (AU _) ?_,rfl,q2 (λw=>z (r2.nil_iff.mpr w)) _ (I.hok.fresh (AU _))⟩;exact⟨by rw[Ac];exact hz,_,r1.append r2,C3.new _ _⟩
end
end L2
namespace L2
open PySem PySem.Spec PyProof.Rows
variable{pins:List (AI×Obj)}{σ:St}{H:Hp}{s:AJ}
noncomputable def ixN(n:Nat)(i:Int):Option Nat:=if 0<=i then(if i<n then AA i.toNat else AE)else if -(n:Int)<=i then AA (i+n).toNat else AE
noncomputable def atI{α:Type}(xs:List α)(i:Int):Option α:=(ixN xs.length i).bind λj=>xs[j]?
def ak4{n:Nat}{i:Int}{j:Nat}(h:ixN n i=AA j):Hq i n=AA j∧j<n∧-(n:Int)<=i∧i<n:=by
 unfold ixN at h
 by_cases h0:0<=i
 ·rw[if_pos h0]at h
  by_cases h1:i<n
  ·rw[if_pos h1]at h;have e:i.toNat=j:=Ar h;exact⟨by rw[IT h0 h1,e],by lia,by lia,h1⟩
  ·rw[if_neg h1]at h;cases h
 ·rw[if_neg h0]at h
  by_cases h1:-(n:Int)<=i
  ·rw[if_pos h1]at h;have e:(i+n).toNat=j:=Ar h;exact⟨by rw[IA (by lia) h1,e],by lia,h1,by lia⟩
  ·rw[if_neg h1]at h;cases h
def al3{α:Type}{xs:List α}{i:Int}{v:α}(h:atI xs i=AA v):∃j,Hq i xs.length=AA j∧xs[j]?=AA v∧j<xs.length∧-(xs.length:Int)<=i∧i<xs.length:=by
 unfold atI at h;cases e:ixN xs.length i with
 |none=>rw[e]at h;cases h
 |some j=>
  rw[e]at h;obtain⟨h1,h2,h3,h4⟩:=ak4 e;exact⟨j,h1,h,h2,h3,h4⟩
noncomputable def a52(b:AS):Prop:=∀o i,subscripted b AG o i=operate [o,i] (Da o i)
noncomputable def IxR(X:Cx)(r:R2):Prop:=
 ∀(value slice:AS)(pins:List (AI×Obj))(s:AJ)(σ:St)(H:Hp)(x y:V)(v u:AF)(Q:VK),Inv X pins σ H s->f9 x v->f9 y u->r x y H Q ->
  subscripted slice AG v u=operate [v,u] (Da v u)->AT (model X.prog X.w) X.A (Fn value slice v u) (EP X pins σ Q) X.xe s
noncomputable def MtR(X:Cx)(id:String)(r:V->List V->Hp->VK->Prop):Prop:=
 ∀(pins:List (AI×Obj))(s:AJ)(σ:St)(H:Hp)(x:V)(xs:List V)(v:AF)(us:List AF)(Q:VK),Inv X pins σ H s->f9 x v->f7 xs us->r x xs H Q ->
  AT (model X.prog X.w) X.A (call (.builtin id) (v::us)) (EP X pins σ Q) X.xe s
section
variable {X:Cx} {a b:AS} {ta tb:TE} {pos:Pos}
def IxR.or{r r':R2}(h:IxR X r)(h':IxR X r'):IxR X (λx y H Q=>r x y H Q∨r' x y H Q):=by
 intro value slice pins s σ H x y v u Q I rx ry q hs
 rcases q with q|q
 ·exact h value slice pins s σ H x y v u Q I rx ry q hs
 ·exact h' value slice pins s σ H x y v u Q I rx ry q hs
def cx8{r:R2}(hr:IxR X r)(ha:PE X a ta)(hb:PE X b tb)(hs:a52 b):PE X (.Subscript a b pos) (tOp r ta tb):=by
 intro pins s σ H Q I h;exact JI (aq1 ha hb I h λv u s2 x y H2 I2 rx ry q=>hr a b pins s2 σ H2 x y v u Q I2 rx ry q (hs _ _))
noncomputable def c59(K:AO):R2:=λx y H Q=>∃p xs i v,x=.ref p∧y=.int i∧SqL K H p xs∧atI xs i=AA v∧Q v H
noncomputable def c30(K:AO):R2:=λx y H Q=>∃p xs i v,x=.ref p∧y=.int i∧SqT K H p xs∧atI xs i=AA v∧Q v H
noncomputable def c47:R2:=λx y H Q=>∃z i c,x=.str z∧y=.int i∧z.length<=sizeLine∧atI z.cps.toList i=AA c∧Q (.str ⟨#[c]⟩) H
def ce8:IxR X (c59 X.K):=by
 intro value slice pins s σ H x y v u Q I rx ry h hs;obtain⟨p,xs,i,z,rfl,rfl,hq,he,q⟩:=h;cases rx;obtain⟨t,rfl⟩:=ry;obtain⟨its,r,pl,hz⟩:=I.list hq;obtain⟨j,h1,h2,h3,h4,h5⟩:=al3 he;obtain⟨w,ew,rw'⟩:=r.get h2;have hl:=r.length;have hn:=V8;have fin:EP X pins σ Q w s:=⟨z,H,I,rw',q⟩
 by_cases h0:0<=i
 ·have hj:i.toNat=j:=by
   rw[IT h0 h5]at h1;exact Ar h1
  exact item_listR pl.isList h0 (by lia) (by rw[hj];simpa using ew) fin hs
 ·have hj:(i+(its.toArray.size:Int)).toNat=j:=by
   rw[IA (by lia) h4]at h1;rw[AY,<-hl];exact Ar h1
  exact IB (x:=w) pl.isList.typeIs JU.lookup
   (wpAny_getItem_list_neg (Q:=λr s'=>r=w∧EP X pins σ Q r s') pl.isList (by lia) (by rw[AY]<;>lia) (by lia) (by rw[hj];simpa using ew) ⟨rfl,fin⟩) hs
def cn7:IxR X (c30 X.K):=by
 intro value slice pins s σ H x y v u Q I rx ry h hs;obtain⟨p,xs,i,z,rfl,rfl,hq,he,q⟩:=h;cases rx;obtain⟨t,rfl⟩:=ry;obtain⟨its,r,pl,hz⟩:=I.tuple hq;obtain⟨j,h1,h2,h3,h4,h5⟩:=al3 he;obtain⟨w,ew,rw'⟩:=r.get h2;have hl:=r.length;have hn:=V8;have fin:EP X pins σ Q w s:=⟨z,H,I,rw',q⟩;exact IB (x:=w) pl.typeIs EC.lookup
  (getItem_tuple (j:=j) (Q:=λr s'=>r=w∧EP X pins σ Q r s') pl (by lia) (by lia) (by rw[AY,<-hl];exact h1) (by simpa using ew) ⟨rfl,fin⟩) hs
def co0:IxR X c47:=by
 intro value slice pins s σ H x y v u Q I rx ry h hs;obtain⟨z,i,c,rfl,rfl,hz,he,q⟩:=h;obtain⟨t,rfl⟩:=rx;obtain⟨t',rfl⟩:=ry;obtain⟨j,h1,h2,h3,h4,h5⟩:=al3 he;have hl:z.cps.toList.length=z.length:=by simp[Str.length]
 rw[hl]at h1 h4 h5;have hn:=V8;exact tail_any (typeIs_str s z t) slot_str_getitem.lookup (getItem_str (c:=c) (by
  have e1:AB (i < -(2^63:Int))=AG:=decide_eq_false (by lia);have e2:AB (i>=2^63)=AG:=decide_eq_false (by lia);rw[e1,e2,JJ]) (by rw[h1];simpa using h2) ⟨.str ⟨#[c]⟩,H,I.tok _,⟨_,rfl⟩,q⟩) hs
def by9(its:List AF)(n j:Nat)(u:AF):ER (·.setIfInBounds j u) {cls:=.type "list",data:=.seq its.toArray n}={cls:=.type "list",data:=.seq (its.set j u).toArray n}:=by
 simp[ER]
theorem Inv.lst{p:AI}{xs:List V}(I:Inv X pins σ H s)(h:H p=AA (.lst xs)):
  ∃(its:List AF)(n:Nat),f7 xs its∧s.heap.get? p=AA {cls:=.type "list",data:=.seq its.toArray n}∧xs.length<=sizeLine:=by
 obtain⟨z,its,n,r,e⟩:=I.hok p _ h;exact⟨its,n,r,e,z⟩
def Inv.lstUpd{p:AI}{xs ys:List V}{its its':List AF}{n n':Nat}{f:Obj->Obj}(I:Inv X pins σ H s)(h:H p=AA (.lst xs))
  (ho:s.heap.get? p=AA {cls:=.type "list",data:=.seq its.toArray n}) (hf:f {cls:=.type "list",data:=.seq its.toArray n}={cls:=.type "list",data:=.seq its'.toArray n'}) (r:f7 ys its') (hz:ys.length<=sizeLine) (t:Nat) :
  Inv X pins σ (upd H p (.lst ys)) {s with heap:=s.heap.update p f,toks:=t}:=by
 have e:(s.heap.update p f).get? p=AA {cls:=.type "list",data:=.seq its'.toArray n'}:=by
  rw[Ed f ho (by rw[hf]<;>rfl),hf]
 refine I.write (x:=p) (e:=p) (by rw[h];trivial) (.inl rfl) (λb u hb q=>(Gx _ _ (Av hb)).trans q) ⟨_,e⟩ ?_;exact⟨hz,its',n',r,e⟩
noncomputable def c22:V->V->V->Hp->(Hp->Prop)->Prop:=λo i v H Q=>∃p xs k j,o=.ref p∧i=.int k∧H p=AA (.lst xs)∧ixN xs.length k=AA j∧Q (upd H p (.lst (xs.set j v)))
def b94:br8 X c22:=by
 intro pins s σ H o i v ov iv u Q I ro ri rv h;obtain⟨p,xs,k,j,rfl,rfl,hp,hj,q⟩:=h;cases ro;obtain⟨t,rfl⟩:=ri;obtain⟨its,n,r,ho,hz⟩:=I.lst hp;obtain⟨h1,h2,h3,h4⟩:=ak4 hj;have hl:=r.length;have hn:=V8;have I':Inv X pins σ (upd H p (.lst (xs.set j v))) {s with heap:=s.heap.update p (ER (·.setIfInBounds j u))}:=
  I.lstUpd hp ho (by9 its n j u) (r.set rv j) (by rw[List.length_set];exact hz) s.toks
 by_cases h0:0<=k
 ·have hk:k.toNat=j:=by
   rw[IT h0 h4]at h1;exact Ar h1
  exact W.ki_setAt ho h0 (by lia) (by rw[AY,<-hl];exact h4) (by rw[hk];exact⟨_,I',q⟩)
 ·have hk:(k+(its.toArray.size:Int)).toNat=j:=by
   rw[IA (by lia) h3]at h1;rw[AY,<-hl];exact Ar h1
  exact W.ki_setBack ho (by lia) (by rw[AY,<-hl];exact h3) (by lia) (by rw[hk];exact⟨_,I',q⟩)
def bw2(lo hi:Option Int)(n:Nat):(Dd lo hi AE n).1=((HT.sIx n 0 lo:Nat):Int)∧(Dd lo hi AE n).2.1=((HT.sIx n n hi:Nat):Int)∧(Dd lo hi AE n).2.2=1:=by
 refine⟨?_,?_,rfl⟩
 ·cases lo with
  |none=>simp[Dd,HT.sIx]
  |some i=>
   simp only[Dd,HT.sIx,Hr,show(1:Int)>0 by decide,if_true]
   by_cases h:i<0
   ·simp only[h,if_true]<;>lia
   ·simp only[h,if_false]<;>lia
 ·cases hi with
  |none=>simp[Dd,HT.sIx]
  |some i=>
   simp only[Dd,HT.sIx,Hr,show(1:Int)>0 by decide,if_true]
   by_cases h:i<0
   ·simp only[h,if_true]<;>lia
   ·simp only[h,if_false]<;>lia
def bv8(its:List AF)(lo hi:Option Int):slicePick its.toArray lo hi AE=((its.drop (HT.sIx its.length 0 lo)).take (HT.sIx its.length its.length hi-HT.sIx its.length 0 lo)).toArray:=by
 obtain⟨h1,h2,h3⟩:=bw2 lo hi its.toArray.size;unfold slicePick;rw[h1,h2,h3];simp only[sliceRange_one,pick_run,AY]<;>rfl
noncomputable def c62(K:AO):V->Option Int->Option Int->Hp->VK->Prop:=λx lo hi H Q=>∃a xs,x=.ref a∧SqL K H a xs∧∀p,H p=AE->Q (.ref p) (upd H p (.lst (M9 xs lo hi)))
def ci4:SlR X (c62 X.K):=by
 intro pins s σ H x v vl vu lo hi sl Q I rx hs pl pu h;obtain⟨a,xs,rfl,hx,q⟩:=h;cases rx;obtain⟨its,r,ht,hz⟩:=I.list hx;have hlen:=r.length;refine⟨"list",_,JU.lookup,ht.isList.typeIs,?_⟩;refine wpAny_getItem_list_slice ht.isList hs pl pu .none (by simp) ?_ (by rw[AY]<;>lia);rw[bv8,<-hlen];refine⟨.ref s.heap.objs.size,_,I.laid (t':=s.toks) (o:=.lst (M9 xs lo hi)) (λb ob q=>AQ _ q) (AU _) ?_,rfl,q _ (I.hok.fresh (AU _))⟩;exact⟨BF (as8 xs lo hi) hz,_,0,(r.drop (HT.sIx xs.length 0 lo)).take (HT.sIx xs.length xs.length hi-HT.sIx xs.length 0 lo),Ap _ rfl⟩
def bw8:E4 X (.builtin "len") (λxs H Q=>∃p ys,xs=[.ref p]∧(SqL X.K H p ys∨SqT X.K H p ys)∧Q (.int ys.length) H):=by
 intro pins s σ H xs us Q I r h;obtain⟨p,ys,rfl,hq,q⟩:=h;obtain⟨u,rfl,rx⟩:=S6 r;cases rx;have hn:=V8
 rcases hq with hq|hq
 ·obtain⟨its,r',pl,hz⟩:=I.list hq;have hlen:=r'.length;exact Calls.call_len_list pl.isList (by simp only[AY]<;>lia) ⟨.int ys.length,H,I.tok _,⟨s.toks+1,by rw[AY,hlen]⟩,q⟩
 ·obtain⟨its,r',pl,hz⟩:=I.tuple hq;have hlen:=r'.length;exact len_tuple pl (by simp only[AY]<;>lia) ⟨.int ys.length,H,I.tok _,⟨s.toks+1,by rw[AY,hlen]⟩,q⟩
def bw5:E4 X (.type "list") (λxs H Q=>∃p ys,xs=[.ref p]∧(SqL X.K H p ys∨SqT X.K H p ys)∧∀l,H l=AE->Q (.ref l) (upd H l (.lst ys))):=by
 intro pins s σ H xs us Q I r h;obtain⟨p,ys,rfl,hq,q⟩:=h;obtain⟨u,rfl,rx⟩:=S6 r;cases rx;have fin:∀(its:List AF),f7 ys its->ys.length<=sizeLine->∀(h':BC)(c':Nat),(∀b o',s.heap.get? b=AA o'->h'.get? b=AA o') ->
   h'.get? s.heap.objs.size=AA {cls:=.type "list",dict:=AE,data:=.seq its.toArray c',slots:=#[]}->EP X pins σ Q (.ref s.heap.objs.size) {s with heap:=h'}:=λits r' hz h' c' kp e=>
  ⟨.ref s.heap.objs.size,_,I.laid (t':=s.toks) kp (AU _) (show l9 X.prog X.w _ h' _ (.lst ys) from⟨hz,its,c',r',e⟩),rfl,q _ (I.hok.fresh (AU _))⟩
 rcases hq with hq|hq
 ·obtain⟨its,r',pl,hz⟩:=I.list hq;have hlen:=r'.length;obtain⟨o,ho,hc,n,hd⟩:=pl.isList;exact call_list_seq p (.inl rfl) ho hc hd (λh' c' kp e=>fin its r' hz h' c' kp e) (by simp only[AY]<;>lia)
 ·obtain⟨its,r',pl,hz⟩:=I.tuple hq;have hlen:=r'.length;obtain⟨o,ho,hc,n,hd⟩:=pl;exact call_list_seq p (.inr rfl) ho hc hd (λh' c' kp e=>fin its r' hz h' c' kp e) (by simp only[AY]<;>lia)
def bw1:E4 X (.type "tuple") (λxs H Q=>∃p ys,xs=[.ref p]∧((SqL X.K H p ys∧∀l,H l=AE->Q (.ref l) (upd H l (.tup ys)))∨(SqT X.K H p ys∧Q (.ref p) H))):=by
 intro pins s σ H xs us Q I r h;obtain⟨p,ys,rfl,h⟩:=h;obtain⟨u,rfl,rx⟩:=S6 r;cases rx
 rcases h with⟨hq,q⟩|⟨hq,q⟩
 ·obtain⟨its,r',pl,hz⟩:=I.list hq;have hlen:=r'.length;refine call_tuple_list pl.isList (λh' kp=>?_) (by simp only[AY]<;>lia);have I1:Inv X pins σ H {s with heap:=h'}:=I.kept (t':=s.toks) kp;have I2:Inv X pins σ (upd H h'.objs.size (.tup ys)) {s with heap:=h'.push {cls:=.type "tuple",data:=.seq its.toArray}}:=
   I1.laid (t':=s.toks) (λb o e=>AQ _ e) (AU _) (show l9 X.prog X.w _ _ _ (.tup ys) from⟨hz,its,r',C3.new _ _⟩)
  exact⟨.ref h'.objs.size,_,I2,rfl,q _ (I1.hok.fresh (AU _))⟩
 ·obtain⟨its,r',pl,hz⟩:=I.tuple hq;exact call_tuple_same pl ⟨.ref p,H,I,rfl,q⟩
noncomputable def tyV(K:AO)(T:String)(x:V)(H:Hp):Prop:=match x with
 |.str _=>T="str"
 |.int _=>T="int"
 |.ref p=>(T="list"∧∃xs,SqL K H p xs)∨(T="tuple"∧∃o,K.lookup p=AA o∧o.cls=.type "tuple"∧o.dict=AE)∨
   (T="dict"∧((∃kvs,H p=AA (.dK kvs))∨∃kvs,H p=AA (.dT kvs)))∨(T="set"∧∃S n,H p=AA (.set S n))
 |_=>False
def bi6{T:String}{x:V}{v:AF}(I:Inv X pins σ H s)(r:f9 x v)(ty:tyV X.K T x H):
  s.TypeIs v T∧∀a,v=.ref a->∃ob,s.heap.get? a=AA ob∧ob.dict=AE:=by
 cases x with
 |str z=>
  obtain⟨t,rfl⟩:=r;cases(show T="str" from ty);exact⟨typeIs_str s z t,λ_ e=>nomatch e⟩
 |int i=>
  obtain⟨t,rfl⟩:=r;cases(show T="int" from ty);exact⟨JK s i t,λ_ e=>nomatch e⟩
 |ref p=>
  cases r
  rcases ty with⟨rfl,xs,hq⟩|⟨rfl,o,hk,hc,hd⟩|⟨rfl,hk⟩|⟨rfl,S,n,hk⟩
  ·obtain⟨its,_,pl,_⟩:=I.list hq;refine⟨pl.isList.typeIs,λa e=>?_⟩;cases e;obtain⟨o,n,e,c,hd,_⟩:=pl;exact⟨o,e,hd⟩
  ·refine⟨⟨o,I.kIn p o hk,hc⟩,λa e=>?_⟩;cases e;exact⟨o,I.kIn _ o hk,hd⟩
  ·have z:∃o,s.heap.get? p=AA o∧o.ExactDict:=by
    rcases hk with⟨kvs,hk⟩|⟨kvs,hk⟩
    ·obtain⟨_,_,_,_,o,_,_,e,ex,_⟩:=I.hok p _ hk;exact⟨o,e,ex⟩
    ·obtain⟨_,_,_,_,o,_,_,e,ex,_⟩:=I.hok p _ hk;exact⟨o,e,ex⟩
   obtain⟨o,e,ex⟩:=z;refine⟨⟨o,e,ex.1⟩,λa e2=>?_⟩;cases e2;exact⟨o,e,ex.2.1⟩
  ·obtain⟨o,_,_,_,e,ex,_⟩:=I.hok p _ hk;refine⟨⟨o,e,ex.1⟩,λa e2=>?_⟩;cases e2;exact⟨o,e,ex.2.1⟩
 |_=>exact AZ ty
noncomputable def c38(K:AO)(T:String)(r:V->List V->Hp->VK->Prop)(to:TE):TE:=λσ H Q=>to σ H λx H1=>tyV K T x H1∧r x [] H1 Q
noncomputable def tBM(K:AO)(T:String)(r:V->List V->Hp->VK->Prop)(to:TE)(t:TA):TE:=λσ H Q=>to σ H λx H1=>tyV K T x H1∧t σ H1 λxs H2=>r x xs H2 Q
variable {o e:AS} {es:List AS} {to:TE} {t:TA} {name:Str} {apos cpos:Pos} {T id:String} {r:V->List V->Hp->VK->Prop}
def bi3(pa:PlainAttrs T)(slot:Slot T name id)(hty:typeOf (.builtin id)=pure (.type "method_descriptor"))(hm:MtR X id r)(ho:PE X o to)
  (hbase:Cc o name X.env (eval o X.env)=eval o X.env:=by rfl) (hline:(apos.endLine==cpos.line)=AC:=by rfl):PE X (.Call (.Attribute o name apos) [] [] cpos) (c38 X.K T r to):=by
 intro pins s σ H Q I h;refine wpAny_Call_method0_late hbase hline (thn (ho pins s σ H _ I h) λv s1⟨x,H1,I1,r1,ty,q1⟩=>?_);obtain⟨h1,h2⟩:=bi6 I1 r1 ty;exact⟨T,id,pa,slot,hty,h1,h2,Bj rfl (PySem.evalArgs_none (hm pins s1 σ H1 x [] v [] Q I1 r1 .nil q1))⟩
def cx3(pa:PlainAttrs T)(slot:Slot T name id)(hty:typeOf (.builtin id)=pure (.type "method_descriptor"))(hm:MtR X id r)(ho:PE X o to)(ha:PA X (e::es) t)
  (hbase:Cc o name X.env (eval o X.env)=eval o X.env:=by rfl)
  (hfew:((Bm cpos (Ak (e::es) X.env)).all (λx=>!x.1)&&(Ee cpos (DE [] X.env)).all (λx=>x.1.isSome)
   &&AB ((e::es).length+([]:List Gy).length+(if([]:List Gy).isEmpty then 0 else 1)<30))=AC:=by rfl)
  (hline:(apos.endLine==cpos.line)=AC:=by rfl) (hs:Ak (e::es) X.env=(AG,eval e X.env)::Ak es X.env:=by rfl) (hplain:(Bm cpos (Ak es X.env)).any (·.1)=AG:=by rfl) :
  PE X (.Call (.Attribute o name apos) (e::es) [] cpos) (tBM X.K T r to t):=by
 intro pins s σ H Q I h;refine IC hbase hfew hline rfl (thn (ho pins s σ H _ I h) λv s1⟨x,H1,I1,r1,ty,q1⟩=>?_);obtain⟨h1,h2⟩:=bi6 I1 r1 ty;refine⟨T,id,pa,slot,hty,h1,h2,?_⟩;have hA:=ha cpos pins s1 σ H1 _ I1 q1;rw[hs]at hA ⊢;refine Bj (by show(AG||(Bm cpos (Ak es X.env)).any (·.1))=AG;rw[hplain]<;>rfl) (CZ ?_);exact thn hA λus s2⟨vs,H2,I2,r2,q2⟩=>hm pins s2 σ H2 x vs v us Q I2 r1 r2 q2
end
end L2
namespace L2
open PySem PySem.Spec PyProof.Rows
variable{us:List AF}{xs:List V}
noncomputable def MtM(X:Cx)(id:String)(r:V->List V->Hp->VK->Prop):Prop:=
 ∀(pins:List (AI×Obj))(s:AJ)(σ:St)(H:Hp)(x:V)(xs:List V)(v:AF)(us:List AF)(Q:VK),Inv X pins σ H s->f9 x v->f7 xs us->r x xs H Q ->
  AT (model X.prog X.w) X.A (call (.builtin id) (v::us)) (EP X pins σ Q) X.xe s
def f7.one:∀{x:V}{us:List AF},f7 [x] us->∃u,us=[u]∧f9 x u
 |_,_,.cons r .nil=>⟨_,rfl,r⟩
def f7.two{x y:V}(h:f7 [x,y] us):∃u v,us=[u,v]∧f9 x u∧f9 y v:=by
 cases h with|cons r t=>cases t with|cons q t=>cases t;exact⟨_,_,rfl,r,q⟩
def f7.zero:∀{us:List AF},f7 [] us->us=[]
 |_,.nil=>rfl
theorem f7.dropLast(h:f7 xs us):f7 xs.dropLast us.dropLast:=by
 induction h with
 |nil=>exact .nil
 |cons r t ih=>
  cases t with
  |nil=>exact .nil
  |cons q t'=>exact .cons r ih
theorem f7.eraseIdx:∀{xs:List V}{us:List AF}(i:Nat),f7 xs us->f7 (xs.eraseIdx i) (us.eraseIdx i)
 |_,_,_,.nil=>.nil
 |_,_,0,.cons _ t=>t
 |_,_,i+1,.cons r t=>.cons r (f7.eraseIdx i t)
theorem f7.reverse(h:f7 xs us):f7 xs.reverse us.reverse:=by
 induction h with
 |nil=>exact .nil
 |cons r t ih=>rw[DJ,DJ];exact f7.append ih (.cons r .nil)
theorem f7.rep(h:f7 xs us):∀k:Nat,f7 (AX k xs).flatten (AX k us).flatten
 |0=>.nil
 |k+1=>by
  rw[Bx,Bx,CC,CC];exact f7.append h (f7.rep h k)
def bz2{α:Type}(l:List α):l.eraseIdx (l.length-1)=l.dropLast:=by
 induction l with
 |nil=>rfl
 |cons a r ih=>
  cases r with
  |nil=>rfl
  |cons b r=>
   have e:(a::b::r).length-1=((b::r).length-1)+1:=by
    have h1:(a::b::r).length=r.length+2:=rfl;have h2:(b::r).length=r.length+1:=rfl;lia
   rw[e,List.eraseIdx_cons_succ,ih]
   all_goals rfl
theorem aw3{α:Type}:∀(l:List α)(i:Nat),(l.eraseIdx i).length<=l.length
 |[],_=>AU _
 |_::_,0=>Gv _
 |_::r,i+1=>Nat.succ_le_succ (aw3 r i)
theorem ai6(its:List AF):∀(k:Nat)(acc:List AF),
  FF (λx1 x2=>x1++x2) acc.toArray (AX k its.toArray)=(acc++(AX k its).flatten).toArray
 |0,acc=>by simp
 |k+1,acc=>by
  have e:acc.toArray++its.toArray=(acc++its).toArray:=by simp
  have e2:(acc++its)++(AX k its).flatten=acc++(AX (k+1) its).flatten:=by
   rw[Bx,CC,CT]
  rw[<-e2,<-ai6 its k (acc++its),<-e,Bx,List.foldl_cons]
section
variable {X:Cx} {pins:List (AI×Obj)} {σ:St} {H:Hp} {s:AJ} {l b:AI} {ys zs:List V}
def Inv.lset{its its':List AF}{n:Nat}{f:Array AF->Array AF}{t':Nat}(I:Inv X pins σ H s)(hH:H l=AA (.lst xs))
  (e:s.heap.get? l=AA {cls:=.type "list",data:=.seq its.toArray n}) (hf:f its.toArray=its'.toArray) (hv:f7 ys its') (hz:ys.length<=sizeLine) :
  Inv X pins σ (upd H l (.lst ys)) {s with heap:=s.heap.update l (ER f),toks:=t'}:=by
 have q:=PySem.IsL.update e f;rw[hf]at q;refine I.write (x:=l) (e:=l) (by rw[hH];exact trivial) (.inl rfl) (λb' u hb hu=>(Gx s.heap (ER f) (Av hb)).trans hu) ⟨_,q⟩ ?_;exact⟨hz,its',_,hv,q⟩
def Inv.lnew{its:List AF}{t':Nat}(I:Inv X pins σ H s)(hv:f7 ys its)(hz:ys.length<=sizeLine):
  Inv X pins σ (upd H s.heap.objs.size (.lst ys)) {s with heap:=s.heap.push {cls:=.type "list",data:=.seq its.toArray},toks:=t'}:=
 I.laid (λ_ _ q=>AQ _ q) (AU _) ⟨hz,its,0,hv,Ap _ rfl⟩
theorem Inv.fresh(I:Inv X pins σ H s):H s.heap.objs.size=AE:=I.hok.fresh (AU _)
def Inv.lstM(I:Inv X pins σ H s)(hH:H l=AA (.lst xs)):xs.length<=sizeLine∧∃(its:List AF)(n:Nat),f7 xs its∧xs.length=its.length∧s.heap.get? l=AA {cls:=.type "list",data:=.seq its.toArray n}:=by
 obtain⟨z,its,n,r,e⟩:=I.hok l _ hH;exact⟨z,its,n,r,r.length,e⟩
def a01{n:Nat}(h:n<=sizeLine):Bq n=AG:=by
 unfold Bq;exact decide_eq_false (by lia)
end
section
variable {X:Cx}
noncomputable def cc4:V->List V->Hp->VK->Prop:=λx vs H Q=>∃l xs y,x=.ref l∧vs=[y]∧H l=AA (.lst xs)∧xs.length<sizeLine∧Q .non (upd H l (.lst (xs++[y])))
def au9:MtM X "list.append" cc4:=by
 intro pins s σ H x vs v us Q I rx rv h;obtain⟨l,xs,y,rfl,rfl,hH,hz,q⟩:=h;cases rx;obtain⟨u,rfl,ru⟩:=rv.one;obtain⟨z,its,n,r,hl,e⟩:=I.lstM hH;refine CU F.slot_list_append ⟨_,e,rfl⟩ F.entry_list_append (F.args_list_append_2 _ _) (PySem.list_append l its.toArray n u (by rw[AY];lia)) ⟨e,?_⟩;refine⟨.non,_,I.lset (its':=its++[u]) hH e (by simp) (r.append (.cons ru .nil)) ?_,rfl,q⟩;rw[Ac,HP];lia
noncomputable def a78:V->List V->Hp->VK->Prop:=λx vs H Q=>∃l b xs zs,x=.ref l∧vs=[.ref b]∧H l=AA (.lst xs)∧H b=AA (.lst zs)∧xs.length+zs.length<=sizeLine∧Q .non (upd H l (.lst (xs++zs)))
def b48:MtM X "list.extend" a78:=by
 intro pins s σ H x vs v us Q I rx rv h;obtain⟨l,b,xs,zs,rfl,rfl,hH,hB,hz,q⟩:=h;cases rx;obtain⟨u,rfl,ru⟩:=rv.one;cases ru;obtain⟨z,its,n,r,hl,e⟩:=I.lstM hH;obtain⟨z2,its2,n2,r2,hl2,e2⟩:=I.lstM hB;have hsz:its.toArray.size+its2.toArray.size<=sizeLine:=by rw[AY,AY];lia
 have hlong:¬(!its.toArray.isEmpty&&Bq (its.toArray.size+its2.toArray.size))=AC:=by
  rw[a01 hsz,Iu];exact AH
 refine CU IU ⟨_,e,rfl⟩ IL (ID _ _)
  (AutoSeq1.list_extend_list_list_0 l its.toArray n b its2.toArray n2 hlong (by rw[AY];lia) (by lia)) ⟨e,e2,?_⟩
 refine⟨.non,_,I.lset (its':=its++its2) hH e (by simp) (r.append r2) ?_,rfl,q⟩;rw[Ac];lia
noncomputable def c55:V->List V->Hp->VK->Prop:=λx vs H Q=>∃l xs y,x=.ref l∧vs=[]∧H l=AA (.lst xs)∧xs[xs.length-1]?=AA y∧Q y (upd H l (.lst xs.dropLast))
def cm7:MtM X "list.pop" c55:=by
 intro pins s σ H x vs v us Q I rx rv h;obtain⟨l,xs,y,rfl,rfl,hH,hy,q⟩:=h;cases rx;have hus:=rv.zero;subst hus;obtain⟨z,its,n,r,hl,e⟩:=I.lstM hH;obtain⟨u,hu,ru⟩:=r.get hy;have hy':its.toArray[its.toArray.size-1]?=AA u:=by
  show its.toArray[its.length-1]?=AA u;rw[<-Gz,<-hl];exact hu
 refine CU JV ⟨_,e,rfl⟩ JL (F.args_list_pop_1 _) (MeetsSeq.list_pop_last l its.toArray n u hy' (by rw[AY];lia)) ⟨e,?_⟩;refine⟨y,_,I.lset (its':=its.dropLast) hH e ?_ r.dropLast ?_,ru,q⟩
 ·show its.toArray.eraseIdxIfInBounds (its.toArray.size-1)=its.dropLast.toArray;rw[AY,Fc,bz2]
 ·rw[List.length_dropLast];lia
noncomputable def ct7:V->List V->Hp->VK->Prop:=λx vs H Q=>∃l xs i k y,x=.ref l∧vs=[.int i]∧H l=AA (.lst xs)∧-(2^63)<=i∧i<2^63∧Hq i xs.length=AA k∧xs[k]?=AA y∧Q y (upd H l (.lst (xs.eraseIdx k)))
def ca2:MtM X "list.pop" ct7:=by
 intro pins s σ H x vs v us Q I rx rv h;obtain⟨l,xs,i,k,y,rfl,rfl,hH,h1,h2,hk,hy,q⟩:=h;cases rx;obtain⟨u,rfl,ru⟩:=rv.one;obtain⟨t,rfl⟩:=ru;obtain⟨z,its,n,r,hl,e⟩:=I.lstM hH;obtain⟨w,hw,rw'⟩:=r.get hy;refine CU JV ⟨_,e,rfl⟩ JL (F.args_list_pop_2 _ _)
  (MeetsSeq.list_pop_at l its.toArray n i t k w (fitsIndex_both h1 h2) (by rw[AY,<-hl];exact hk) (by rw[<-Gz];exact hw) (by rw[AY];lia)) ⟨e,?_⟩
 refine⟨y,_,I.lset (its':=its.eraseIdx k) hH e ?_ (r.eraseIdx k) ?_,rw',q⟩
 ·show its.toArray.eraseIdxIfInBounds k=(its.eraseIdx k).toArray;rw[Fc]
 ·have:=aw3 xs k;lia
noncomputable def c36:R2:=λx y H Q=>∃l b xs zs,x=.ref l∧y=.ref b∧H l=AA (.lst xs)∧H b=AA (.lst zs)∧xs.length+zs.length<=sizeLine∧∀p,H p=AE->Q (.ref p) (upd H p (.lst (xs++zs)))
def cm9:OpR X (Co .Add) c36:=by
 intro pins s σ H x y v u Q I rx ry h;obtain⟨l,b,xs,zs,rfl,rfl,hH,hB,hz,q⟩:=h;cases rx;cases ry;obtain⟨z,its,n,r,hl,e⟩:=I.lstM hH;obtain⟨z2,its2,n2,r2,hl2,e2⟩:=I.lstM hB;refine PySem.P.add_list e e2 ?_ (by rw[AY,AY];lia);have ea:its.toArray++its2.toArray=(its++its2).toArray:=by simp
 rw[ea];exact⟨.ref _,_,I.lnew (t':=s.toks) (r.append r2) (by rw[Ac];lia),rfl,q _ I.fresh⟩
def a63{α:Type}(xs:List α)(k:Nat):(AX k xs).flatten.length=k*xs.length:=by
 induction k with
 |zero=>simp
 |succ k ih=>rw[Bx,CC,Ac,ih,Nat.succ_mul,KW]
end
end L2
namespace L2
open PySem PySem.Spec PyProof.Rows
variable{kvs:List (Af×V)}{o:Option V}{u:AF}{y:V}{P:Ai}{w:Ax}{H H':Hp}{xs:List (Af×AI×AF)}{b a:AI}{X:Cx}{pins:List (AI×Obj)}{σ:St}{s:AJ}{A:BL}{Q:AF->AJ->Prop}{pos:Pos}
section
variable {κ:Type} [DecidableEq κ]
noncomputable def o5(kvs:List (κ×V))(k:κ):Option V:=(kvs.find? λkv=>AB (kv.1=k)).map (·.2)
noncomputable def u4(kvs:List (κ×V))(k:κ)(v:V):List (κ×V):=
 if(kvs.any λkv=>AB (kv.1=k))=AC then kvs.map (λkv=>if kv.1=k then(kv.1,v)else kv)else kvs++[(k,v)]
def aj3{p:κ×V}{r:List (κ×V)}{k:κ}(e:p.1=k):o5 (p::r) k=AA p.2:=by simp[o5,Bg,e]
def aj1{p:κ×V}{r:List (κ×V)}{k:κ}(e:¬p.1=k):o5 (p::r) k=o5 r k:=by simp[o5,Bg,e]
theorem aj0(k:κ):∀kvs:List (κ×V),(kvs.any λkv=>AB (kv.1=k))=(o5 kvs k).isSome
 |[]=>rfl
 |p::r=>by
  rw[Ef]
  by_cases e:p.1=k
  ·simp only[aj3 e,decide_eq_true e,JW,HV]
  ·rw[aj1 e,decide_eq_false e,FC];exact aj0 k r
def ag8(kvs:List (κ×V))(k:κ)(v:V):(u4 kvs k v).length<=kvs.length+1:=by
 unfold u4
 split
 ·rw[AV];lia
 ·rw[Ac,AW,BQ];lia
def b82{kvs:List (κ×V)}{k:κ}(v:V)(h:o5 kvs k=AE):u4 kvs k v=kvs++[(k,v)]:=by
 unfold u4;rw[aj0,h];exact if_neg (by decide)
def w6.isSome_eq{u:Option AF}(r:w6 o u):o.isSome=u.isSome:=by
 cases o with
 |none=>cases u with
  |none=>rfl
  |some _=>exact(show False from r).elim
 |some _=>cases u with
  |none=>exact(show False from r).elim
  |some _=>rfl
theorem w6.getD{u:Option AF}{d:V}{d':AF}(r:w6 o u)(rd:f9 d d'):f9 (o.getD d) (u.getD d'):=by
 cases o with
 |none=>cases u with
  |none=>exact rd
  |some _=>exact(show False from r).elim
 |some _=>cases u with
  |none=>exact(show False from r).elim
  |some _=>exact r
def KV.val{kvs:List (κ×V)}{vs:List (κ×AF)}(r:KV kvs vs)(k:κ):w6 (o5 kvs k) (GQ vs k):=by
 unfold KV at r
 induction r with
 |nil=>exact Bp
 |@cons p q ps qs h t ih=>
  obtain⟨h1,h2⟩:=h
  by_cases e:p.1=k
  ·have e':q.1=k:=h1.symm.trans e;have b:GQ (q::qs) k=AA q.2:=by simp[GQ,Bg,e']
   rw[aj3 e,b];exact h2
  ·have e':¬q.1=k:=λz=>e (h1.trans z);have b:GQ (q::qs) k=GQ qs k:=by simp[GQ,Bg,e']
   rw[aj1 e,b];exact ih
theorem KV.any{kvs:List (κ×V)}{vs:List (κ×AF)}(r:KV kvs vs)(k:κ):(kvs.any λkv=>AB (kv.1=k))=vs.any λkv=>AB (kv.1=k):=by
 unfold KV at r
 induction r with
 |nil=>rfl
 |cons h t ih=>rw[Ef,Ef,ih,h.1]
def KV.repl{kvs:List (κ×V)}{vs:List (κ×AF)}(r:KV kvs vs)(k:κ)(ry:f9 y u):
  KV (kvs.map λkv=>if kv.1=k then(kv.1,y)else kv) (vs.map λkv=>if kv.1=k then(kv.1,u)else kv):=by
 unfold KV at r ⊢
 induction r with
 |nil=>exact .nil
 |@cons p q ps qs h t ih=>
  rw[Aa,Aa];refine .cons ?_ ih;obtain⟨h1,h2⟩:=h
  by_cases e:p.1=k
  ·rw[if_pos e,if_pos (h1.symm.trans e)];exact⟨h1,ry⟩
  ·rw[if_neg e,if_neg (λz=>e (h1.trans z))];exact⟨h1,h2⟩
def KV.put{kvs:List (κ×V)}{vs:List (κ×AF)}(r:KV kvs vs)(k:κ)(ry:f9 y u):KV (u4 kvs k y) (stored vs k u):=by
 unfold u4 stored;rw[r.any k]
 by_cases e:(vs.any λkv=>AB (kv.1=k))=AC
 ·rw[if_pos e,if_pos e];exact r.repl k ry
 ·rw[if_neg e,if_neg e];exact Paired.snoc r ⟨rfl,ry⟩
theorem KV.length{kvs:List (κ×V)}{vs:List (κ×AF)}(r:KV kvs vs):kvs.length=vs.length:=Paired.length r
end
def O3{k:Key}(r:f9 (kV k) u):(v2 P w).is k u=AC:=by
 cases k with
 |inl i=>obtain⟨t,e⟩:=(show ∃t,u=DZ i t from r);subst e;exact bx4 P w i t
 |inr x=>obtain⟨t,e⟩:=(show ∃t,u=EA x t from r);subst e;exact bx3 P w x t
noncomputable abbrev KT(H:Hp):List (Af×V)->List (Af×AI×AF)->Prop:=Paired λp q=>p.1=q.1∧D4 H p.1 q.2.1∧f9 p.2 q.2.2
def KT.val(r:KT H kvs xs)(k:Af):w6 (o5 kvs k) ((HQ xs k).map (·.2)):=by
 induction r with
 |nil=>exact Bp
 |@cons p q ps qs h t ih=>
  obtain⟨h1,_,h2⟩:=h
  by_cases e:p.1=k
  ·have e':q.1=k:=h1.symm.trans e;have b:HQ (q::qs) k=AA q.2:=by simp[HQ,Bg,e']
   rw[aj3 e,b];exact h2
  ·have e':¬q.1=k:=λz=>e (h1.trans z);have b:HQ (q::qs) k=HQ qs k:=by simp[HQ,Bg,e']
   rw[aj1 e,b];exact ih
def KT.repl(r:KT H kvs xs)(k:Af)(ry:f9 y u):
  KT H (kvs.map λkv=>if kv.1=k then(kv.1,y)else kv) (xs.map (putAt k u)):=by
 induction r with
 |nil=>exact .nil
 |@cons p q ps qs h t ih=>
  rw[Aa,Aa];refine .cons ?_ ih;obtain⟨h1,h2,h3⟩:=h;unfold putAt
  by_cases e:p.1=k
  ·rw[if_pos e,if_pos (h1.symm.trans e)];exact⟨h1,h2,ry⟩
  ·rw[if_neg e,if_neg (λz=>e (h1.trans z))];exact⟨h1,h2,h3⟩
def KT.put(r:KT H kvs xs)(k:Af)(hb:D4 H k b)(ry:f9 y u):
  KT H (u4 kvs k y) (storedH xs k b u):=by
 have e:(kvs.any λkv=>AB (kv.1=k))=(HQ xs k).isSome:=by
  rw[aj0,(r.val k).isSome_eq,FG]
 unfold u4 storedH;rw[e]
 by_cases q:(HQ xs k).isSome=AC
 ·rw[if_pos q,if_pos q];exact r.repl k ry
 ·rw[if_neg q,if_neg q];exact Paired.snoc r ⟨rfl,hb,ry⟩
theorem KT.keeps(r:KT H kvs xs)(ht:∀b ys,H b=AA (.tup ys)->H' b=AA (.tup ys)):KT H' kvs xs:=
 Paired.mapP r λ_ _ z=>⟨z.1,z.2.1.keeps ht,z.2.2⟩
section
variable {h:BC} 
def bq0{u:HO}(ok:HOk P w H h)(e:Rd H a u):l9 P w H h a u:=e.ok ok
def O2{kvs:List (Key×V)}(ok:HOk P w H h)(e:Rd H a (.dK kvs)):kvs.length<=sizeLine∧(a==CH)=AG∧∃vs,KV kvs vs∧h.DictOf (v2 P w) a vs:=
 show l9 P w H h a (.dK kvs) from bq0 ok e
def bn1{kvs:List (Key×V)}(ok:HOk P w H h)(e:H a=AA (.dK kvs)):kvs.length<=sizeLine∧(a==CH)=AG∧∃vs,KV kvs vs∧h.DictOf (v2 P w) a vs:=O2 ok (.inl e)
def b42(ok:HOk P w H h):∀(n:Nat)(d:Af),d.depth<=n->∀{v:V}{u:AF},HRd H d v->f9 v u->∃as,Reads h u d as:=by
 have all:∀n,(∀d:Af,d.depth<=n->∀{v:V}{u:AF},HRd H d v->f9 v u->∃as,Reads h u d as)->∀(ds:List Af),CK ds<=n->∀{vs:List V}{us:List AF},L0 H ds vs->f7 vs us->∃as,ReadsAll h us ds as:=λn ih ds=>by
  induction ds with
  |nil=>
   intro _ vs us q r;obtain rfl:vs=[]:=q;cases r;exact⟨_,.nil⟩
  |cons d ds ihd=>
   intro hd vs us q r;obtain⟨v,vr,rfl,q1,q2⟩:=q;have hd':max d.depth (CK ds)<=n:=hd;cases r with
   |cons r1 r2=>
    obtain⟨a1,x1⟩:=ih d (by lia) q1 r1;obtain⟨a2,x2⟩:=ihd (by lia) q2 r2;exact⟨_,.cons x1 x2⟩
 intro n
 induction n with
 |zero=>
  intro d hd v u q r;cases d with
  |int i=>obtain rfl:v=.int i:=q;obtain⟨t,rfl⟩:=(show ∃t,u=DZ i t from r);exact⟨_,.int _ _⟩
  |str x=>obtain rfl:v=.str x:=q;obtain⟨t,rfl⟩:=(show ∃t,u=EA x t from r);exact⟨_,.str _ _⟩
  |tuple ds=>rw[NK.depth_tup]at hd;lia
  |none=>exact q.elim
  |bool _=>exact q.elim
  |list _=>exact q.elim
  |dict _=>exact q.elim
 |succ n ih=>
  intro d hd v u q r;cases d with
  |int i=>obtain rfl:v=.int i:=q;obtain⟨t,rfl⟩:=(show ∃t,u=DZ i t from r);exact⟨_,.int _ _⟩
  |str x=>obtain rfl:v=.str x:=q;obtain⟨t,rfl⟩:=(show ∃t,u=EA x t from r);exact⟨_,.str _ _⟩
  |none=>exact q.elim
  |bool _=>exact q.elim
  |list _=>exact q.elim
  |dict _=>exact q.elim
  |tuple ds=>
   rw[NK.depth_tup]at hd;obtain⟨b,vs,rfl,q1,q2⟩:=q;cases(show u=An b from r);obtain⟨_,its,rv,o,h1,h2,_,m,h3⟩:=(show l9 P w H h b (.tup vs) from ok b _ q1);obtain⟨as,x⟩:=all n ih ds (by lia) q2 rv;exact⟨_,.tuple h1 h2 h3 (by simpa using x)⟩
def J2{k:Af}(ok:HOk P w H h)(e:D4 H k a):(NK.dataKind P w).is h k a:=⟨e.1,e.2.1,b42 ok 7 k e.2.1 e.2.2 rfl⟩
def M6(ok:HOk P w H h)(e:Rd H a (.dT kvs)):kvs.length<=sizeLine∧(a==CH)=AG ∧
  ∃xs,KT H kvs xs∧h.DictOfH (NK.dataKind P w) a xs:=by
 obtain⟨z,y,xs,r,o,es,ep,h1,h2,h3,h4,h5⟩:=(show l9 P w H h a (.dT kvs) from bq0 ok e);refine⟨z,y,xs,r,o,es,ep,h1,h2,h3,h4,λx hx=>?_,h5⟩;have all:∀{l:List (Af×V)}{m:List (Af×AI×AF)},KT H l m->∀x∈m,(NK.dataKind P w).is h x.1 x.2.1:=by
  intro l m q
  induction q with
  |nil=>intro x hx;exact nomatch hx
  |@cons p q ps qs hq t ih=>
   intro x hx
   rcases AM.mp hx with e|hx
   ·subst e;exact J2 ok (by rw[<-hq.1];exact hq.2.1)
   ·exact ih x hx
 exact all r x hx
def c24(ok:HOk P w H h)(e:H a=AA (.dT kvs)):kvs.length<=sizeLine∧(a==CH)=AG ∧
  ∃xs,KT H kvs xs∧h.DictOfH (NK.dataKind P w) a xs:=M6 ok (.inl e)
end
noncomputable def u2(H:Hp)(a:AI)(y:V)(r:Option V):Prop:=
 (∃kvs k,Rd H a (.dK kvs)∧y=kV k∧r=o5 kvs k)∨∃kvs k b,Rd H a (.dT kvs)∧y=.ref b∧D4 H k b∧r=o5 kvs k
noncomputable def X1(H:Hp)(a:AI)(y v:V)(H':Hp):Prop:=
 (∃kvs k,H a=AA (.dK kvs)∧y=kV k∧kvs.length<sizeLine∧H'=upd H a (.dK (u4 kvs k v)))∨
 ∃kvs k b,H a=AA (.dT kvs)∧y=.ref b∧D4 H k b∧kvs.length<sizeLine∧H'=upd H a (.dT (u4 kvs k v))
theorem u2.k{kvs:List (Key×V)}{k:Key}(e:H a=AA (.dK kvs)):u2 H a (kV k) (o5 kvs k):=.inl ⟨kvs,k,.inl e,rfl,rfl⟩
def u2.t{k:Af}(e:H a=AA (.dT kvs))(eb:D4 H k b):u2 H a (.ref b) (o5 kvs k):=.inr ⟨kvs,k,b,.inl e,rfl,eb,rfl⟩
def X1.t{k:Af}{v:V}(e:H a=AA (.dT kvs))(eb:D4 H k b)(hl:kvs.length<sizeLine):
  X1 H a (.ref b) v (upd H a (.dT (u4 kvs k v))):=.inr ⟨kvs,k,b,e,rfl,eb,hl,rfl⟩
section
variable {v:V} {r:AF} {E:AF->AJ->Prop}
def Inv.big(I:Inv X pins σ H s):CH<s.heap.objs.size:=by
 have h:AN<s.heap.objs.size:=(I.mod.glob.keeps I.bk).lt;exact Nat.lt_trans (by decide) h
def av5(hu:A.units+20<Bk)(I:Inv X pins σ H s)(g:u2 H a y (AA v))(ry:f9 y u)(h:∀w' s',Inv X pins σ H s'->f9 v w'->Q w' s'):
  AT (model X.prog X.w) A (Da (.ref a) u) Q E s:=by
 rcases g with⟨kvs,k,e,ey,l⟩|⟨kvs,k,b,e,ey,eb,l⟩
 ·subst ey;obtain⟨z,hd,vs,rel,dd⟩:=O2 I.hok e;obtain⟨w',hw,rw'⟩:=w6.some_of (v:=v) (o:=GQ vs k) (by rw[l];exact rel.val k);exact wpAny_getItem_of (O3 ry) dd.mapOf hw (h w' _ (I.tok _) rw')
 ·subst ey;cases(show u=An b from ry);obtain⟨z,hd,xs,rel,dd⟩:=M6 I.hok e;obtain⟨w',hw,rw'⟩:=w6.some_of (v:=v) (o:=(HQ xs k).map (·.2)) (by rw[l];exact rel.val k);obtain⟨p,hp,hp2⟩:=Option.map_eq_some_iff.mp hw;refine wpAny_getItem_heap (NK.dataKind_room_in1 hu) (J2 I.hok eb) dd hp ?_;rw[hp2];exact h w' _ (I.tok _) rw'
def bu0(hu:A.units+20<Bk)(I:Inv X pins σ H s)(g:u2 H a y o)(ry:f9 y u)(h:∀s',Inv X pins σ H s'->Q (.bool o.isSome) s'):
  AT (model X.prog X.w) A (Bl .In u (.ref a)) Q E s:=by
 rcases g with⟨kvs,k,e,ey,l⟩|⟨kvs,k,b,e,ey,eb,l⟩
 ·subst ey;obtain⟨z,hd,vs,rel,dd⟩:=O2 I.hok e;refine wpAny_in_of (O3 ry) hd dd.mapOf ?_;rw[<-(rel.val k).isSome_eq,<-l];exact h _ (I.tok _)
 ·subst ey;cases(show u=An b from ry);obtain⟨z,hd,xs,rel,dd⟩:=M6 I.hok e;refine wpAny_in_heap (NK.dataKind_room_in1 hu) (J2 I.hok eb) hd dd ?_;have q:=(rel.val k).isSome_eq;rw[FG]at q;rw[<-q,<-l];exact h _ (I.tok _)
def a69(hu:A.units+20<Bk)(I:Inv X pins σ H s)(g:u2 H a y o)(ry:f9 y u)(h:∀s',Inv X pins σ H s'->Q (.bool (!o.isSome)) s'):
  AT (model X.prog X.w) A (Bl .NotIn u (.ref a)) Q E s:=by
 rcases g with⟨kvs,k,e,ey,l⟩|⟨kvs,k,b,e,ey,eb,l⟩
 ·subst ey;obtain⟨z,hd,vs,rel,dd⟩:=O2 I.hok e;refine KY (O3 ry) hd dd.mapOf ?_;rw[<-(rel.val k).isSome_eq,<-l];exact h _ (I.tok _)
 ·subst ey;cases(show u=An b from ry);obtain⟨z,hd,xs,rel,dd⟩:=M6 I.hok e;refine wpAny_notIn_heap (NK.dataKind_room_in1 hu) (J2 I.hok eb) hd dd ?_;have q:=(rel.val k).isSome_eq;rw[FG]at q;rw[<-q,<-l];exact h _ (I.tok _)
def am1{h':BC}{t':Nat}{ob:HO}(I:Inv X pins σ H s)(mu:Mut (H a))(hs:Az a s.heap h')(he:∃q,h'.get? a=AA q)(new:l9 X.prog X.w (upd H a ob) h' a ob):
  Inv X pins σ (upd H a ob) {s with heap:=h',toks:=t'}:=
 I.write (x:=a) (e:=a) mu (.inl rfl) (λb q hb z=>(hs.2 b hb).trans z) he new
def an2{h':BC}{kvs:List (Key×V)}{vs:List (Key×AF)}(z:kvs.length<=sizeLine)(hd:(a==CH)=AG)(rel:KV kvs vs)(dd:h'.DictOf (v2 P w) a vs):
  l9 P w H' h' a (.dK kvs):=⟨z,hd,vs,rel,dd⟩
def b30{Q:Unit->AJ->Prop}(hu:A.units+20<Bk)(I:Inv X pins σ H s)(g:X1 H a y v H')(ry:f9 y u)(rv:f9 v r)(h:∀s',Inv X pins σ H' s'->Q () s'):
  AT (model X.prog X.w) A (JR (.ref a) u r) Q E s:=by
 rcases g with⟨kvs,k,e,ey,l,eH⟩|⟨kvs,k,b,e,ey,eb,l,eH⟩
 ·subst ey eH;obtain⟨z,hd,vs,rel,dd⟩:=bn1 I.hok e;have hz:vs.length<=sizeLine:=by rw[<-rel.length];exact z
  have hl:(u4 kvs k v).length<=sizeLine:=by have:=ag8 kvs k v;lia
  refine wpAny_setItem_pairs (hsz:=hz) (O3 ry) dd λh' dd' hs=>h _ ?_;have he:∃q,h'.get? a=AA q:=let⟨q,_,_,hq,_⟩:=dd';⟨q,hq⟩;exact am1 I (by rw[e];exact Bp) hs he (an2 hl hd (rel.put k rv) dd')
 ·subst ey eH;cases(show u=An b from ry);obtain⟨z,hd,xs,rel,dd⟩:=c24 I.hok e;have hz:xs.length<=sizeLine:=by rw[<-Paired.length rel];exact z
  have hl:(u4 kvs k v).length<=sizeLine:=by have:=ag8 kvs k v;lia
  refine wpAny_setItem_heap (hsz:=hz) (NK.dataKind_room_in1 hu) (J2 I.hok eb) dd λh' dd' hs=>h _ ?_;obtain⟨q,es,ep,hq,h2,h3,h4,_,h5⟩:=dd';refine am1 I (by rw[e];exact Bp) hs ⟨q,hq⟩ ⟨hl,hd,_,(rel.put k eb rv).keeps λc ys ec=>?_,q,es,ep,hq,h2,h3,h4,h5⟩;rw[i7 (c14 ec e (λz=>nomatch z))];exact ec
end
noncomputable def bt5(i:AS):Prop:=∀ov iv,subscripted i AG ov iv=operate [ov,iv] (Da ov iv)
def a67{prog:Ai}{E:AF->AJ->Prop}{env:Env}{value slice:AS}{T id:String}
  (hl:Fv (.type T) "__getitem__"=pure (AA (.builtin id))) (hs:bt5 slice)
  (h:AT (model prog w) A (eval value env) (λo s₁=>AT (model prog w) A (eval slice env) (λi s₂=>s₂.TypeIs o T∧AT (model prog w) A (Da o i) Q E s₂) E s₁) E s) :
  AT (model prog w) A (eval (.Subscript value slice pos) env) Q E s:=by
 refine JI (Bd h (λo s₁ h₁=>Bd h₁ (λi s₂ h₂=>?_) λ_ _ x=>x) λ_ _ x=>x);obtain⟨hT,h₂⟩:=h₂;unfold Fn;refine AD ?_;rw[IM hT.not_modules];refine AD (CA hT hl ?_);have fin:AT (model prog w) A (subscripted slice AG o i) (λr s₃=>AT (model prog w) A (KZ value o r>>=λ_=>pure r) Q E s₃) E s₂:=by
  rw[hs o i];exact KF (Bd h₂ (λr s₃ h₃=>AD (IV (AK h₃))) λ_ _ x=>x)
 first
  |exact AK (AD fin)
  |exact AD (AK (AD fin))
  |exact AD fin
def as5(I:Inv X pins σ H s)(g:u2 H a y o):s.TypeIs (.ref a) "dict":=by
 rcases g with⟨kvs,k,e,_,_⟩|⟨kvs,k,b,e,_,_,_⟩
 ·obtain⟨_,_,vs,_,dd⟩:=O2 I.hok e;exact dd.typeIs
 ·obtain⟨_,_,xs,_,dd⟩:=M6 I.hok e;exact dd.typeIs
noncomputable def cz9(td ty:TE):TE:=λσ H Q=>td σ H λx H1=>ty σ H1 λy H2=>∃a v,x=.ref a∧u2 H2 a y (AA v)∧Q v H2
noncomputable def cz4(td ty tv:TE):TS:=λD σ H=>tv σ H λv H1=>td σ H1 λx H2=>ty σ H2 λy H3=>∃a H4,x=.ref a∧X1 H3 a y v H4∧D.nx σ H4
section
variable {o i e value:AS} {pos' tpos:Pos} {td ty tv:TE}
def ck2(hu:X.A.units+20<Bk)(ho:PE X o td)(hi:PE X i ty)(hs:bt5 i):PE X (.Subscript o i pos) (cz9 td ty):=by
 intro pins s σ H Q I h;refine a67 PySem.F.slot_dict_getitem.lookup hs (thn (ho pins s σ H _ I h) λu s1⟨x,H1,I1,rx,q1⟩=>thn (hi pins s1 σ H1 _ I1 q1) λiv s2⟨y,H2,I2,ry,a,v,ex,g,q2⟩=>?_);subst ex;obtain rfl:u=An a:=rx;exact⟨as5 I2 g,av5 hu I2 g ry λw' s3 I3 rw'=>⟨v,H2,I3,rw',q2⟩⟩
def cl1(hu:X.A.units+20<Bk)(ho:PE X o td)(hi:PE X i ty)(hv:PE X value tv)(hs:Cb value (AA (.Subscript o i pos')) pos.line X.env=pure AG):
  PS X (.Assign [.Subscript o i pos'] value pos) (cz4 td ty tv):=by
 intro pins s σ H D I h;refine wpAny_Assign_Subscript (thn (hv pins s σ H _ I h) λr s1⟨v,H1,I1,rv,q1⟩=>thn (ho pins s1 σ H1 _ I1 q1) λu s2⟨x,H2,I2,rx,q2⟩=>thn (hi pins s2 σ H2 _ I2 q2) λiv s3⟨y,H3,I3,ry,a,H4,ex,g,q3⟩=>?_) hs;subst ex;obtain rfl:u=An a:=rx;exact b30 hu I3 g ry rv λs4 I4=>⟨σ,H4,I4,q3⟩
end
def az1(h:BC)(hb:CH<h.objs.size):l9 P w H (h.push {cls:=.type "dict",data:=.dict #[]}) h.objs.size (.dK []):=
 ⟨BU _,beq_eq_false_iff_ne.mpr (Av (BJ hb)),[],.nil,HA h⟩
def b75(h:BC)(hb:CH<h.objs.size):l9 P w H (h.push {cls:=.type "dict",data:=.dict #[]}) h.objs.size (.dT []):=
 ⟨BU _,beq_eq_false_iff_ne.mpr (Av (BJ hb)),[],.nil,_,#[],0,Ap _ rfl,⟨rfl,rfl,rfl⟩,rfl,rfl,Iv⟩
noncomputable def cs1:TE:=λ_ H Q=>∀p,H p=AE->Q (.ref p) (upd H p (.dK []))
noncomputable def co8:TE:=λ_ H Q=>∀p,H p=AE->Q (.ref p) (upd H p (.dT []))
section
def cb5:PE X (.Dict [] [] pos) cs1:=λpins s σ H Q I h=>
 Jo ⟨.ref s.heap.objs.size,_,I.laid (a:=s.heap.objs.size) (o:=.dK []) (t':=s.toks) (λ_ _ q=>AQ _ q) (AU _) (az1 s.heap I.big),rfl,h _ (I.hok.fresh (AU _))⟩
def b71:PE X (.Dict [] [] pos) co8:=λpins s σ H Q I h=>
 Jo ⟨.ref s.heap.objs.size,_,I.laid (a:=s.heap.objs.size) (o:=.dT []) (t':=s.toks) (λ_ _ q=>AQ _ q) (AU _) (b75 s.heap I.big),rfl,h _ (I.hok.fresh (AU _))⟩
end
noncomputable def W0:List (TE×TE)->St->Hp->(List (V×V)->Hp->Prop)->Prop
 |[],_,H,Q=>Q [] H
 |(tk,tv)::r,σ,H,Q=>tk σ H λx H1=>tv σ H1 λy H2=>W0 r σ H2 λps H3=>Q ((x,y)::ps) H3
noncomputable abbrev VV:List (V×V)->List (AF×AF)->Prop:=Paired λp q=>f9 p.1 q.1∧f9 p.2 q.2
noncomputable def PPs(X:Cx)(pos:Pos)(keys:List (Option AS))(values:List AS)(trs:List (TE×TE)):Prop:=
 ∀(pins:List (AI×Obj))(s:AJ)(σ:St)(H:Hp)(Q:List (V×V)->Hp->Prop),Inv X pins σ H s->W0 trs σ H Q ->
  AT (model X.prog X.w) X.A (evalPairs (pairTrees keys values X.env pos)) (λvs s'=>∃ps H',Inv X pins σ H' s'∧VV ps vs∧Q ps H') X.xe s
def cd6:PPs X pos [] [] []:=λpins s σ H Q I h=>pairTrees_nil_walk ⟨[],H,I,.nil,h⟩
def b70{k v:AS}{ks:List (Option AS)}{vs:List AS}{tk tv:TE}{trs:List (TE×TE)}(hk:PE X k tk)(hv:PE X v tv)(hr:PPs X pos ks vs trs):
  PPs X pos (AA k::ks) (v::vs) ((tk,tv)::trs):=λpins s σ H Q I h=>
 pairTrees_cons_walk (thn (hk pins s σ H _ I h) λu s1⟨x,H1,I1,rx,q1⟩=>thn (hv pins s1 σ H1 _ I1 q1) λw2 s2⟨y,H2,I2,ry,q2⟩=>
  thn (hr pins s2 σ H2 _ I2 q2) λws s3⟨ps,H3,I3,rel,q3⟩=>⟨(x,y)::ps,H3,I3,.cons ⟨rx,ry⟩ rel,q3⟩)
noncomputable def G9(kvs more:List (Key×V)):List (Key×V):=more.foldl (λacc kv=>u4 acc kv.1 kv.2) kvs
def KV.merge:∀{more:List (Key×V)}{rs:List (Key×AF)}{kvs:List (Key×V)}{vs:List (Key×AF)},KV more rs->KV kvs vs->KV (G9 kvs more) (merged vs rs):=by
 intro more rs kvs vs r;unfold KV at r
 induction r generalizing kvs vs with
 |nil=>intro q;exact q
 |@cons p q ps qs h t ih=>
  intro r0;have e:KV (u4 kvs p.1 p.2) (stored vs q.1 q.2):=by
   have:=r0.put p.1 h.2;rw[<-h.1];exact this
  exact ih e
theorem ar8:∀(more kvs:List (Key×V)),(G9 kvs more).length<=kvs.length+more.length
 |[],kvs=>by show kvs.length<=kvs.length+0;lia
 |p::r,kvs=>by
  have h1:=ar8 r (u4 kvs p.1 p.2);have h2:=ag8 kvs p.1 p.2;show(G9 (u4 kvs p.1 p.2) r).length<=_;rw[AW];lia
theorem at7{P:Ai}{w:Ax}:∀{kvs:List (Key×V)}{ws:List (AF×AF)},VV (kvs.map λkv=>(kV kv.1,kv.2)) ws->∃rs,Carries (v2 P w) ws rs∧KV kvs rs
 |[],_,r=>by rw[Cq]at r;cases r;exact⟨[],Bp,.nil⟩
 |p::kvs,_,r=>by
  rw[Aa]at r;cases r with
  |@cons a b as bs h t=>
   obtain⟨rs,c,q⟩:=at7 (P:=P) (w:=w) t;obtain⟨b1,b2⟩:=b;exact⟨(p.1,b2)::rs,⟨O3 h.1,rfl,c⟩,.cons ⟨rfl,h.2⟩ q⟩
noncomputable def c18(trs:List (TE×TE)):TE:=λσ H Q=>∀p,H p=AE->W0 trs σ (upd H p (.dK [])) λps H2=>H2 p=AA (.dK [])∧∃kvs:List (Key×V),ps=kvs.map (λkv=>(kV kv.1,kv.2))∧kvs.length<=15∧Q (.ref p) (upd H2 p (.dK (G9 [] kvs)))
def cl0{keys:List (Option AS)}{values:List AS}{trs:List (TE×TE)}(h:PPs X pos keys values trs)(hall:keys.all (·.isSome)=AC)(hl:keys.length=values.length)(h0:keys≠[])
  (h15:keys.length<=15):PE X (.Dict keys values pos) (c18 trs):=by
 intro pins s σ H Q I q;have hn:=I.hok.fresh (AU s.heap.objs.size);have I1:=I.laid (a:=s.heap.objs.size) (o:=.dK []) (h':=s.heap.push {cls:=.type "dict",data:=.dict #[]}) (t':=s.toks) (λ_ _ q=>AQ _ q) (AU _) (az1 s.heap I.big);refine wpAny_Dict_walk (knd:=v2 X.prog X.w) hall hl h0 h15 (thn (h pins _ σ _ _ I1 (q _ hn)) λws s2⟨ps,H2,I2,rel,e,kvs,ep,lk,q2⟩=>?_);subst ep;obtain⟨rs,c,rk⟩:=at7 (P:=X.prog) (w:=X.w) rel;obtain⟨z,hd,vs0,r0,dd⟩:=bn1 I2.hok e;cases r0;refine⟨rs,c,dd,λh' dd' hs=>⟨.ref s.heap.objs.size,_,?_,rfl,q2⟩⟩;have hz:(G9 [] kvs).length<=sizeLine:=by
  have h1:=ar8 kvs [];rw[BQ]at h1;rw[Ge];lia
 have he:∃q,h'.get? s.heap.objs.size=AA q:=let⟨q,_,_,hq,_⟩:=dd';⟨q,hq⟩;exact am1 I2 (by rw[e];exact Bp) hs he (an2 hz hd (rk.merge .nil) dd')
structure M1(X:Cx)(o:AS)(m:Str)(apos:Pos)(e:AS)(cpos:Pos):Prop where
 base:Cc o m X.env (eval o X.env)=eval o X.env
 few:((Bm cpos (Ak [e] X.env)).all (λx=>!x.1)&&(Ee cpos (DE [] X.env)).all (λx=>x.1.isSome)
  &&AB (([e]:List AS).length+([]:List Gy).length+(if([]:List Gy).isEmpty then 0 else 1)<30))=AC
 line:(apos.endLine==cpos.line)=AC
 trees:Bm cpos (Ak [e] X.env)=[(AG,eval e X.env)]
noncomputable def IsD(H:Hp)(a:AI):Prop:=(∃kvs,Rd H a (.dK kvs))∨∃kvs,Rd H a (.dT kvs)
def cs4(I:Inv X pins σ H s)(d:IsD H a):
  s.TypeIs (.ref a) "dict"∧(∀b,An a=.ref b->∃ob,s.heap.get? b=AA ob∧ob.dict=AE)∧(a==CH)=AG:=by
 rcases d with⟨kvs,e⟩|⟨kvs,e⟩
 ·obtain⟨_,hd,vs,_,dd⟩:=O2 I.hok e;refine⟨dd.typeIs,λb q=>?_,hd⟩;cases q;obtain⟨ob,_,_,h1,h2,_⟩:=dd;exact⟨ob,h1,h2.2.1⟩
 ·obtain⟨_,hd,xs,_,dd⟩:=M6 I.hok e;refine⟨dd.typeIs,λb q=>?_,hd⟩;cases q;obtain⟨ob,_,_,h1,h2,_⟩:=dd;exact⟨ob,h1,h2.2.1⟩
section
variable {d:V} {r:AF} {E:AF->AJ->Prop}
def ct3(hu:A.units+20<Bk)(I:Inv X pins σ H s)(g:u2 H a y o)(ry:f9 y u)(h:∀w' s',Inv X pins σ H s'->f9 (o.getD .non) w'->Q w' s'):
  AT (model X.prog X.w) A (call (.builtin "dict.get") [.ref a,u]) Q E s:=by
 rcases g with⟨kvs,k,e,ey,l⟩|⟨kvs,k,b,e,ey,eb,l⟩
 ·subst ey;obtain⟨z,hd,vs,rel,dd⟩:=O2 I.hok e;refine call_meetsIn PySem.F.slot_dict_get dd.typeIs PySem.F.entry_dict_get (PySem.F.args_dict_get_2 _ _) (meets_dict_get (v2 X.prog X.w) a (O3 ry) hd) ⟨_,dd.mapOf,h _ _ (I.tok _) ?_⟩;rw[l];exact(rel.val k).getD rfl
 ·subst ey;cases(show u=An b from ry);obtain⟨z,hd,xs,rel,dd⟩:=M6 I.hok e;refine call_meetsIn PySem.F.slot_dict_get dd.typeIs PySem.F.entry_dict_get (PySem.F.args_dict_get_2 _ _) (meetsH_dict_get (NK.dataKind X.prog X.w) a b hd) ⟨NK.dataKind_room_in1 hu,k,xs,J2 I.hok eb,dd,h _ _ (I.tok _) ?_⟩;rw[l];exact(rel.val k).getD rfl
end
noncomputable def cw4(td ty:TE):TE:=λσ H Q=>td σ H λx H1=>∃a,x=.ref a∧IsD H1 a∧ty σ H1 λy H2=>∃o,u2 H2 a y o∧Q (o.getD .non) H2
section
variable {o e f:AS} {apos cpos:Pos} {td ty tx:TE}
def ay7(hu:X.A.units+20<Bk)(ho:PE X o td)(he:PE X e ty)(m:M1 X o "get" apos e cpos):PE X (.Call (.Attribute o "get" apos) [e] [] cpos) (cw4 td ty):=by
 intro pins s σ H Q I h;refine JX m.base m.few m.line PySem.F.plainAttrs_dict PySem.F.slot_dict_get PySem.F.type_dict_get (thn (ho pins s σ H _ I h) λu s1⟨x,H1,I1,rx,a,ex,d,q1⟩=>?_);subst ex;obtain rfl:u=An a:=rx;obtain⟨t1,t2,_⟩:=cs4 I1 d;refine⟨t1,t2,?_⟩;rw[m.trees];refine Bj rfl (CZ (Cp (thn (he pins s1 σ H1 _ I1 q1) λiv s2⟨y,H2,I2,ry,ov,g,q2⟩=>Do ?_)));exact ct3 hu I2 g ry λw' s3 I3 rw'=>⟨_,H2,I3,rw',q2⟩
end
end L2
namespace Att
open PySem PySem.W PySem.Calls PyProof.Rows
def bv5{P:Params}{h:BC}:∀(ns:List Int)(vs:List AF),WellAll P h vs (ns.map KG)->GP vs ns:=by
 intro ns
 induction ns with
 |nil=>
  intro vs w;rw[Cq]at w;cases w;exact .nil
 |cons n ns ih=>
  intro vs w;rw[Aa]at w;cases w with
  |cons a b=>
   cases a;exact .cons _ _ (ih _ b)
def b22{l:OpenLaw}{n:Nat}(hn:l.most=AA n){P:Params}{h:BC}{args:List WData}{vals:List AF}
  (hpre:l.row.toRowW.claim.pre args=AC) (hwl:WellAll P h vals args) :
  ∃a vs ns,vals=[An a]∧args=[WData.list (ns.map KG)]∧h.get? a=AA {cls:=.type "list",data:=.seq vs.toArray}∧GP vs ns∧ns.length<=n:=by
 have hsh:WShape.hasAll [] args [.list .int]=AC:=(pre_splitW hpre).1;have hc:l.pre.holds [] {args:=args}=AC:=(pre_splitW hpre).2;obtain⟨d,r,rfl,h1,h2⟩:=hasAllW_cons hsh;obtain rfl:=hasAllW_nil h2;obtain⟨xs,rfl,h3⟩:=hasW_list h1;obtain⟨ns,rfl⟩:=items_int h3;have hlen:ns.length<=n:=by
  unfold OpenLaw.pre at hc;have h4:(WTm.not (.lt (.lit (.int (n:Int))) (.len (.arg 0)))).holds [] {args:=[.list (ns.map .int)]}=AC:=by
   have h4:=(holds_andW hc).1;rw[hn]at h4;exact h4
  have h5:=condW_of h4 (w_not (w_lt w_lit (w_len_list (w_arg rfl))));rw[AV]at h5;refine Nat.le_of_not_lt λq=>?_;have q':(n:Int)<((ns.length:Nat):Int):=by lia
  first
   |(rw[decide_eq_true q']at h5;exact absurd h5 (by decide))
   |(simp at h5;lia)
 cases hwl with
 |cons w1 w2=>
  cases w2;cases w1 with
  |list ho hall=>exact⟨_,_,ns,rfl,rfl,ho,bv5 ns _ hall,hlen⟩
def b45(l:OpenLaw)(args:List WData):l.row.toRowW.claim.post args (.bool AC) args=AC:=
 postW_of (r:=l.row.toRowW) (X:=(AC==AC))
  (show JY [] (.bool AC) .bool=AC by first|rfl|decide|simp[JY,WShape.arms,WShape.armsAll])
  (show(WTm.eq .res (.lit (.bool AC))).value [] {args:=args,res:=AA (.bool AC),after:=args}=AA (.bool (AC==AC)) from w_eq_bool (w_res rfl) w_lit) rfl
def attach_call{l:OpenLaw}{n:Nat}{q:Ai}{loose:List Str}{XP:(Str->Option AF)->BC->Prop}{YP:Ax->BC->Prop}{d:DefRec}
  (hn:l.most=AA n) (hdf:d.params.defaults=[])
  (call:∀(w:Ax)(s₀ s₁:AJ)(mg mb:Str->Option AF)(fa:AI)(o:Obj)(pm cd doc:AF)(a:AI)(vs:List AF)(ns:List Int),
   Ground q loose [] XP w s₀ mg mb s₁.heap->YP w s₁.heap ->
   s₁.heap.get? fa=AA o->o.data=.func (docDef d.name d.params d.body d.scope pm cd doc)->s₁.heap.CodeRec cd d.name->mg d.name=AA (.ref fa) ->
   s₁.heap.get? a=AA {cls:=.type "list",data:=.seq vs.toArray}->GP vs ns->ns.length<=n->s₁.gens=#[] ->
   Dq (model l.prog w) HB (.call (.ref fa) ⟨[.ref a],[]⟩) (λr s'=>r=.ok (.ret (.bool AC))∧OldK s₁.heap s'.heap∧s'.os=s₁.os∧GF s'.gens) s₁) :
  WalkO q loose XP YP l.row.toRowW d [] (λf vs=>PySem.call f vs):=by
 intro w s₀ s₁ mg mb G Y fa o pm cd doc dV kV ho hd hcd hD hmg hg args vals as hpre hlay hrd hwl hlo;obtain rfl:dV=.none:=Dflts.none hD hdf;obtain rfl:kV=.none:=Dflts.noKw hD;obtain⟨a,vs,ns,rfl,rfl,hobj,hints,hlen⟩:=b22 hn hpre hwl;refine enter_call (GN (call w s₀ s₁ mg mb fa o pm cd doc a vs ns G Y ho (fd_plain hd) hcd hmg hobj hints hlen hg) λr s' hq=>?_);obtain⟨rfl,h2,h3,h4⟩:=hq;exact⟨.inl ⟨.bool AC,.bool AC,[],rfl,λ_=>rfl,.bool AC,b45 l _,λ_=>⟨Jp,λ_ hm=>(nomatch hm)⟩⟩,h2,h3,h4⟩
section
variable {prog:Ai} {w:Ax} {A:BL} {E:AF->AJ->Prop} {s:AJ} {K:Frag}
noncomputable def c66(h:BC)(L d:AI):List (AI×Obj):=(Cs h.objs.size).filterMap λa=>if a=L∨a=d then AE else(h.get? a).map λo=>(a,o)
end
end Att
namespace L2
open PySem PySem.Spec PyProof.Rows
theorem av1:∀{vs:List AF}{ns:List Int},GP vs ns->f7 (ns.map V.int) vs
 |_,_,.nil=>.nil
 |_,_,.cons n t h=>.cons ⟨t,rfl⟩ (av1 h)
end L2
namespace L2
open PySem PySem.Spec PyProof.Rows
end L2
namespace L2
open PySem PySem.Spec PyProof.Rows
noncomputable def x0(s:BR):Cr:=match s with
 |.FunctionDef _ a _ _ _ _ _ _ _ _=>a
 |_=>{posonlyargs:=[],args:=[],vararg:=AE,kwonlyargs:=[],kw_defaults:=[],kwarg:=AE,defaults:=[]}
noncomputable def u5(s:BR):List BR:=match s with
 |.FunctionDef _ _ b _ _ _ _ _ _ _=>b
 |_=>[]
noncomputable def l8(s:BR):BH:=match s with
 |.FunctionDef _ _ _ _ _ _ sc _ _ _=>sc
 |_=>{kind:=.function,names:=[],isGenerator:=AG,isCoroutine:=AG}
noncomputable abbrev CX0:CXT:=λ_ _ _ _ _ _=>False
noncomputable abbrev E0:XK:=λ_ _ _=>False
def J7{X:Cx}:R7 CX0 X E0:=λ_ _ _ _ _ _ _ h=>h.elim
def aw0{n:Nat}(h:n<=1000):n<sizeLine:=IE h (by decide)
noncomputable def C7(H H':Hp):Prop:=∀b o,H b=AA o->H' b=AA o
def C7.refl(H:Hp):C7 H H:=λ_ _ h=>h
def C7.trans{H H1 H2:Hp}(a:C7 H H1)(b:C7 H1 H2):C7 H H2:=λc o h=>b c o (a c o h)
end L2
namespace L2
open PySem PySem.Spec PyProof.Rows
variable{s:AJ}{scope:BH}{env:Env}{cells:List (Str×AI)}{x:Str}{X:Cx}{Nc:List Str}{fr:List Nat}{C:AI}{fp:List AI}{pins:List (AI×Obj)}{σ:St}{H:Hp}
def bw4{prog:Ai}{w:Ax}{A:BL}{R:Hx->AJ->Prop}{elt target iter:AS}{ifs:List AS}{pos:Pos}{it acc:AF}(I:Nat->AJ->Prop)
  (turn:∀n s,I n s->AT (model prog w) A (EB it) (λr s₁=>match r with
   |none=>R (.ok .next) s₁
   |some v=>AT (model prog w) A (Ex target it v) (λ_ s₁'=>AT (model prog w) A (assign target env v) (λ_ s₂=>
     AT (model prog w) A (forIn ifs AC λc r=>if r=AC then do let ok <-HK c env (eval c env);pure (Be ok)else pure (Be r)) (λok s₃=>
      if ok=AC then AT (model prog w) A (eval elt env) (λx s₄=>
       AT (model prog w) A (call (.builtin "list.append") [acc,x]) (λ_ s₅=>∃m,m<n∧I m s₅) (λ_ _=>False) s₄) (λ_ _=>False) s₃
      else ∃m,m<n∧I m s₃) (λ_ _=>False) s₂) (λ_ _=>False) s₁') (λ_ _=>False) s₁) (λ_ _=>False) s)
  (n:Nat) (h:I n s) :
  Dq (model prog w) A (.compLoop (.ListComp elt [⟨target,iter,ifs,0⟩] scope pos) 0 it acc env) R s:=by
 refine codeAny_loop rfl I (λn s hI=>?_) n h;show AT _ A ((compTurn (.ListComp elt [⟨target,iter,ifs,0⟩] scope pos) 0 it acc env).onRaise (λx=>do noteFrame x env;theTreesLotGoes x)) _ _ s;refine wpAny_noted ?_;rw[compTurn_list];refine AD (Hb (AD (Bd (turn n s hI) (λr s₁ h₁=>?_) λ_ _ h'=>h'.elim)));cases r with
 |none=>exact AK h₁
 |some v=>
  refine AD (Bd h₁ (λ_ s₁' h₁'=>?_) λ_ _ h'=>h'.elim);refine AD (Bd h₁' (λ_ s₂ h₂=>AD (Bd h₂ (λok s₃ h₃=>?_) λ_ _ h'=>h'.elim)) λ_ _ h'=>h'.elim);cases ok with
  |false=>exact AK ⟨rfl,h₃⟩
  |true=>
   exact AD (AD (Bd h₃ (λx s₄ h₄=>AD (Bd h₄ (λ_ s₅ h₅=>AK (AK ⟨rfl,h₅⟩)) λ_ _ h'=>h'.elim)) λ_ _ h'=>h'.elim))
noncomputable def t4(cells:List (Str×AI)):List (Str×FP)->List (Str×AI)->List (Str×AI)
 |[],acc=>acc
 |(n,k)::r,acc=>t4 cells r (if k==.free then(match cells.lookup n with|some a=>(n,a)::acc|none=>acc)else acc)
theorem ah8:∀(names:List (Str×FP))(acc:List (Str×AI)),(∀x∈names,x.2=.free->(env.cells.lookup x.1).isSome=AC) ->
  (forIn names acc λx r=>match x with
   |(name,kind)=>if(kind==As)=AC then do let a <-Ka env name;pure (Be ((name,a)::r))else pure (Be r):Sem (List (Str×AI)))=pure (t4 env.cells names acc)
 |[],acc,_=>rfl
 |(n,k)::r,acc,h=>by
  have hr:∀x∈r,x.2=.free->(env.cells.lookup x.1).isSome=AC:=λx hx=>h x (Ao _ hx);rw[IW];cases hk:(k==As)with
  |false=>
   simp only[hk,BO,if_false,pure_bind];rw[ah8 r acc hr];simp only[t4,hk,BO,if_false]
  |true=>
   have hf:k=.free:=by simpa using hk
   obtain⟨a,ha⟩:=BW.mp (h (n,k) Br hf);have hc:Ka env n=pure a:=by unfold Ka;rw[ha]
   simp only[hk,if_true,hc,pure_bind];rw[ah8 r _ hr];simp only[t4,hk,if_true,ha]
def ah3{env:Env}(h:∀x∈scope.names,x.2=.free->(env.cells.lookup x.1).isSome=AC):HR scope env=pure (t4 env.cells scope.names []):=by
 unfold HR;have e:=ah8 (env:=env) scope.names [] h;show((forIn scope.names ([]:List (Str×AI)) (λx r=>match x with
   |(name,kind)=>if(kind==As)=AC then do let a <-Ka env name;pure (Be ((name,a)::r))else pure (Be r)):Sem (List (Str×AI)))>>=λcs=>pure cs)=_
 rw[e];rfl
theorem az2:∀{names:List (Str×FP)}{acc:List (Str×AI)}{x:Str}{c:AI},(x,c)∈t4 cells names acc->(x,c)∈acc∨(cells.lookup x=AA c∧(x,As)∈names)
 |[],acc,x,c,h=>.inl h
 |(n,k)::r,acc,x,c,h=>by
  unfold t4 at h
  rcases az2 h with h1|⟨h1,h2⟩
  ·cases hk:(k==As)with
   |false=>simp only[hk,BO,if_false]at h1;exact .inl h1
   |true=>
    have hf:k=.free:=by simpa using hk
    subst hf;simp only[hk,if_true]at h1;cases hc:cells.lookup n with
    |none=>rw[hc]at h1;exact .inl h1
    |some a=>
     rw[hc]at h1
     rcases AM.mp h1 with e|e
     ·cases e;exact .inr ⟨hc,Br⟩
     ·exact .inl e
  ·exact .inr ⟨h1,Ao _ h2⟩
theorem az9:∀{names:List (Str×FP)}{acc:List (Str×AI)}{x:Str}{c:AI},cells.lookup x=AA c->((x,As)∈names∨(x,c)∈acc)->(x,c)∈t4 cells names acc
 |[],acc,x,c,_,h=>by
  rcases h with h|h
  ·cases h
  ·exact h
 |(n,k)::r,acc,x,c,hc,h=>by
  unfold t4;refine az9 hc ?_
  rcases h with h|h
  ·rcases AM.mp h with e|e
   ·cases e;refine .inr ?_;rw[if_pos (by decide),hc];exact Br
   ·exact .inl e
  ·refine .inr ?_
   split
   ·split
    ·exact Ao _ h
    ·exact h
   ·exact h
def ah6{α:Type}{l:List (Str×α)}{a:α}(h:l.lookup x=AA a):(x,a)∈l:=PySem.mem_of_lookup h
theorem at6{α:Type}:∀{l:List (Str×α)}{x:Str}{a:α},(x,a)∈l->∃b,l.lookup x=AA b
 |[],_,_,h=>by cases h
 |(y,b)::r,x,a,h=>by
  rw[De];cases e:x==y with
  |true=>exact⟨b,rfl⟩
  |false=>
   rcases AM.mp h with z|z
   ·cases z;simp at e
   ·exact at6 z
def L4{names:List (Str×FP)}{c:AI}(h:(t4 cells names []).lookup x=AA c):cells.lookup x=AA c∧(x,As)∈names:=by
 rcases az2 (ah6 h)with z|z
 ·cases z
 ·exact z
def Y8{names:List (Str×FP)}{c:AI}(h:cells.lookup x=AA c)(hm:(x,As)∈names):(t4 cells names []).lookup x=AA c:=by
 obtain⟨b,hb⟩:=at6 (az9 (acc:=[]) h (.inl hm));have:=(L4 hb).1;rw[h]at this;cases this;exact hb
structure CompScope(X:Cx)(scope:BH)(Nc:List Str)(fr:List Nat)(k:Nat):Prop where
 kind:scope.kind=.function
 nocell:∀y∈scope.names,y.2≠.cell
 names:∀y∈scope.names,y.2=.local->scope.names.lookup y.1=AA .local
 frees:∀y∈scope.names,y.2=.free->X.env.scope.names.lookup y.1=AA .cell∨X.env.scope.names.lookup y.1=AA .free
 uniq:∀y∈scope.names,y.2=.free->(y.1,NameKind.local)∉scope.names
 nd:Nc.Nodup
 len:Nc.length=fr.length+k
 fre:∀i x,Nc[i]?=AA x->i<fr.length->∃j,fr[i]?=AA j∧X.N[j]?=AA x∧(x,As)∈scope.names
noncomputable def F8(fr:List Nat)(k:Nat)(σ:St):St:=(fr.map λj=>(σ[j]?).join)++AX k AE
def bw6(h:((relabel scope env).names.lookup x=AA .cell∨(relabel scope env).names.lookup x=AA .free))(hc:∀y∈scope.names,y.2≠.cell):(x,As)∈scope.names:=by
 have go:∀k,(relabel scope env).names.lookup x=AA k->(k=.cell∨k=.free)->(x,As)∈scope.names:=by
  intro k hk hkk;have hm:=ah6 hk;unfold relabel at hm;obtain⟨⟨n,k'⟩,h1,h2⟩:=Ce.mp hm;dsimp only at h2
  split at h2
  ·rename_i hcond;cases h2;have:k'=.free:=by
    simp only[At,beq_iff_eq]at hcond;exact hcond.1.1
   rw[<-this];exact h1
  ·cases h2
   rcases hkk with z|z
   ·exact absurd z (hc _ h1)
   ·rw[<-z];exact h1
 rcases h with h|h
 ·exact go _ h (.inl rfl)
 ·exact go _ h (.inr rfl)
def bx8:∀{k},(relabel scope env).names.lookup x=AA k->∃k',(x,k')∈scope.names∧(k=k'∨(k'=.free∧k=.cell)):=by
 intro k hk;have hm:=ah6 hk;unfold relabel at hm;obtain⟨⟨n,k'⟩,h1,h2⟩:=Ce.mp hm;dsimp only at h2
 split at h2
 ·rename_i hcond;cases h2;refine⟨_,h1,.inr ⟨?_,rfl⟩⟩;simp only[At,beq_iff_eq]at hcond;exact hcond.1.1
 ·cases h2;exact⟨_,h1,.inl rfl⟩
noncomputable def Cx.comp(X:Cx)(scope:BH)(Nc:List Str)(C:AI)(fp:List AI)(pins:List (AI×Obj))(s:AJ)(H:Hp):Cx:=
 {X with N:=Nc,s₀:=s,H₀:=H,env:=Kb scope (t4 X.env.cells scope.names []) C X.env,outer:=X.stack,stack:=X.stack,ex:=fp,fn:=λ_=>AG,pn:=X.pn++pins,xe:=λ_ _=>False,ow:=λ_=>AG}
def Cx.comp_ok{k:Nat}(S:CompScope X scope Nc fr k)(I:Inv X pins σ H s)
  (hC:s.heap.objs.size<=C) (hf:∀b∈fp,z7 X pins H b) (hlt:∀b∈fp,b<s.heap.objs.size):(X.comp scope Nc C fp pins s H).Ok where
 mod:=I.ok.mod
 kind:=S.kind
 glob:=I.ok.glob
 blt:=I.ok.blt
 above:=hC
 inj:=λx y c h1 h2=>I.ok.inj x y c (L4 h1).1 (L4 h2).1
 has:=λx h=>by
  have hm:=bw6 h S.nocell;have hx:=S.frees _ hm rfl;obtain⟨c,hc⟩:=I.ok.has x hx;exact⟨c,Y8 hc hm⟩
 cab:=λx c h _=>h.elim (λz=>nomatch z) λz=>nomatch z
 hd:=I.ok.hd
 frames:=I.ok.frames
 stk:=.inl rfl
 exf:=λb hb=>⟨λz=>by have h1:=hlt b hb;have h2:b=C:=z;rw[h2]at h1;exact absurd h1 (Ke.mpr hC),λx c h=>(hf b hb).2.2.2.2.1 x c (L4 h).1⟩
 bs:=I.bs
 bsz:=BF I.ok.bsz I.sz
 noex:=λb o e hb=>by
  obtain⟨h0,h1,h2,h3,h4,h5⟩:=hf b hb
  rcases h3 with z|z
  ·exact I.ok.noex b o e z
  ·have:=(I.ok.bs b o e).1;exact absurd (Al (Au this) z) (DC _)
 exfs:=λb hb z=>by
  obtain⟨h0,h1,h2,_⟩:=hf b hb
  rcases AM.mp (I.stkSub b z)with e|e
  ·exact h1 e
  ·exact h2 e
 funs:=I.stack
 frf:=I.stkFree
def bz6{k:Nat}{h1:BC}{tk:Nat}(S:CompScope X scope Nc fr k)(I:Inv X pins σ H s)
  (hC:s.heap.objs.size<=C) (hf:∀b∈fp,z7 X pins H b) (hlt:∀b∈fp,b<s.heap.objs.size) (hk:∀b o,s.heap.get? b=AA o->h1.get? b=AA o) (hn:h1.Ns C (λ_=>AE)) :
  Inv (X.comp scope Nc C fp pins s H) [] (F8 fr k σ) H {s with heap:=h1,toks:=tk}:=by
 have hfC:H C=AE:=I.hok.fresh hC;refine⟨Cx.comp_ok S I hC hf hlt,rfl,I.bare,Un.kept hk,⟨_,hn,λi x v e1 e2 e3=>?_⟩,λx c e=>?_,hfC,λx c e=>(I.freeC x c (L4 e).1).imp id λz=>⟨rfl,z.2⟩,λp hp=>?_,I.hok.kept hk,?_⟩
 ·have hi:i<fr.length:=by
   unfold F8 at e2
   by_cases hi:i<fr.length
   ·exact hi
   ·rw[Aj (by simpa using hi),Cz]at e2
    split at e2<;>cases e2
  obtain⟨j,hj,hN,hm⟩:=S.fre i x e1 hi;have e2':σ[j]?=AA (AA v):=by
   unfold F8 at e2;rw[Ad (by simpa using hi),Am,hj]at e2;simp only[Fq,Bo]at e2;cases q:σ[j]? with
   |none=>rw[q]at e2;cases e2
   |some o=>rw[q]at e2;exact congrArg AA e2
  obtain⟨m,hns,hl⟩:=I.loc;have hvis:Vis X.env.scope x:=by
   rcases S.frees _ hm rfl with z|z
   ·exact .inr (.inl z)
   ·exact .inr (.inr z)
  obtain⟨u,r,l⟩:=hl j x v hN e2' hvis;refine⟨u,r,?_⟩
  rcases l with⟨l1,_⟩|⟨l1,c,lc,lz⟩
  ·exfalso;have l1':X.env.scope.names.lookup x=AA .local:=l1
   rcases S.frees _ hm rfl with z|z
   ·rw[l1']at z;cases z
   ·rw[l1']at z;cases z
  ·refine .inr ⟨?_,c,Y8 lc hm,?_⟩
   ·have e3':Vis (relabel scope X.env) x:=e3
    rcases e3' with z|z|z
    ·exfalso;obtain⟨k',h1,h2⟩:=bx8 z
     rcases h2 with h2|h2
     ·subst h2;exact S.uniq _ hm rfl h1
     ·cases h2.2
    ·exact .inl z
    ·exact .inr z
   ·obtain⟨o,ho,hd⟩:=lz;exact⟨o,hk _ _ ho,hd⟩
 ·obtain⟨v,o,ho,hd⟩:=I.cell x c (L4 e).1;exact⟨v,o,hk _ _ ho,hd⟩
 ·have hp':p∈X.pn++pins:=by
   have:p∈(X.pn++pins)++[]:=hp;simpa using this
  obtain⟨q1,q2,q3,q4,q5⟩:=I.pin p hp';refine⟨hk _ _ q1,q2,λz=>?_,λz=>?_,q5⟩
  ·have h2:p.1=C:=z;have h3:=Au q1;rw[h2]at h3;exact absurd h3 (Ke.mpr hC)
  ·rcases AM.mp (I.stkSub p.1 z)with e|e
   ·exact q3 e
   ·exact q4 e
 ·unfold F8;rw[Ac,AV,DV];exact S.len.symm
def b47{pl:List (AI×Obj)}{σc:St}{H':Hp}{s':AJ}(I:Inv X pins σ H s)(hf:∀b∈fp,z7 X pins H b)
  (I':Inv (X.comp scope Nc C fp pins s H) pl σc H' s'):Inv X pins σ H' s':=by
 obtain⟨hh,g,d,t,os'⟩:=s';obtain rfl:os'=s.os:=I'.os;exact I.call (h':=hh) (g':=g) (d':=d) (t':=t) (ch:=fp) I'.base I'.hok I'.bare λb hb=>by
  obtain⟨h0,h1,h2,h3,h4,h5⟩:=hf b hb;exact⟨h3,h1,h4,h5⟩
def at3{σ0:St}{H0:Hp}{s0:AJ}{h':BC}(I0:Inv X pins σ0 H0 s0)(hC:s0.heap.objs.size<=C)(I:Inv X pins σ H s)(hn:H C=AE)
  (sb:Az C s.heap h'):Inv X pins σ H {s with heap:=h'}:=by
 refine I.turned (t':=s.toks) (it:=C) (λb o hb e=>(sb.2 b hb).trans e) hn ?_ (.inr (BF I0.sz hC)) ?_ ?_
 ·exact λz=>absurd (Al I0.lt hC) (by rw[z];exact DC _)
 ·intro x c e z;obtain⟨v,q⟩:=I0.cell x c e;exact absurd (Al q.lt hC) (by rw[z];exact DC _)
 ·intro p hp z;exact absurd (Al (Au (I0.pin p hp).1) hC) (by rw[z];exact DC _)
noncomputable def an1(fr:List Nat)(k:Nat)(wi:TI)(g:TG)(tc:TT)(te:TE)(fin:V->Hp->Prop):St->Hp->Prop:=λσ H=>
 wi σ H λJ H1=>∀p,H1 p=AE->∃W:Nat->Nat->St->Hp->Prop,(∃m,W 0 m (F8 fr k σ) (upd H1 p (.lst [])))∧∀i m σc H2,W i m σc H2 ->
  (J.stop i H2∧fin (.ref p) H2)∨(J.go i H2∧∃N:St->Hp->Prop,(∀σ' H',N σ' H'->∃m',m'<m∧W (i+1) m' σ' H') ∧
   ∀x H3,J.yld i H2 x H3->g x σc H3 λσ4 H4=>tc σ4 H4 λb H5=>if b=AC then te σ4 H5 λv H6=>∃ys,H6 p=AA (.lst ys)∧ys.length<sizeLine∧N σ4 (upd H6 p (.lst (ys++[v])))else N σ4 H5)
noncomputable def PCs(X:Cx)(ifs:List AS)(t:TT):Prop:=
 ∀(pins:List (AI×Obj))(s:AJ)(σ:St)(H:Hp)(Q:Bool->Hp->Prop),Inv X pins σ H s->t σ H Q ->
  AT (model X.prog X.w) X.A (forIn ifs AC λc r=>if r=AC then do let ok <-HK c X.env (eval c X.env);pure (Be ok)else pure (Be r)) (TP X pins σ Q) X.xe s
noncomputable def c00:TT:=λ_ H Q=>Q AC H
def ci9:PCs X [] c00:=λ_ _ _ H _ I h=>wpAny_tests_nil ⟨H,I,h⟩
def ch7{c:AS}{t:TT}(hc:PT X c t):PCs X [c] t:=λpins s σ H Q I h=>wpAny_tests_one (hc pins s σ H Q I h)
section
variable {k:Nat} {tg iter elt:AS} {ifs:List AS} {wi:TI} {g:TG} {tc:TT} {te:TE} {pos:Pos}
def au3(hc:X.calm=AC)(S:CompScope X scope Nc fr k)(hg:∀C fp pins s H,PG (X.comp scope Nc C fp pins s H) tg g)(ht:∀C fp pins s H,PCs (X.comp scope Nc C fp pins s H) ifs tc)(he:∀C fp pins s H,PE (X.comp scope Nc C fp pins s H) elt te)
  {pins:List (AI×Obj)} {σ:St} {s2:AJ} {H2:Hp} {it:AI} {fp:List AI} {tn:Nat->BC->Prop} {J:It} {fin:V->Hp->Prop} {RR:AF->AI->Hx->AJ->Prop} {E:AF->AJ->Prop}
  (I2:Inv X pins σ H2 s2) (T:Turn X.prog X.w X.K tg J fp it tn) (st2:tn 0 s2.heap) (f2:∀b∈fp,z7 X pins H2 b)
  (h:∀p,H2 p=AE->∃W:Nat->Nat->St->Hp->Prop,(∃m,W 0 m (F8 fr k σ) (upd H2 p (.lst [])))∧∀i m σc H2,W i m σc H2 ->
   (J.stop i H2∧fin (.ref p) H2)∨(J.go i H2∧∃N:St->Hp->Prop,(∀σ' H',N σ' H'->∃m',m'<m∧W (i+1) m' σ' H') ∧
    ∀x H3,J.yld i H2 x H3->g x σc H3 λσ4 H4=>tc σ4 H4 λb H5=>if b=AC then te σ4 H5 λv H6=>∃ys,H6 p=AA (.lst ys)∧ys.length<sizeLine∧N σ4 (upd H6 p (.lst (ys++[v])))else N σ4 H5))
  (hRR:∀(D C:AI)(H':Hp)(s':AJ)(s3:AJ)(H3:Hp)(m':Str->Option AF),Inv X pins σ H3 s3->s3.heap.objs.size<=C->Inv X pins σ H' s'->H' C=AE->s'.heap.Ns C m'->fin (.ref D) H'->RR (.ref D) C (.ok .next) s') :
  AT (model X.prog X.w) X.A (newList []) (λacc s₃=>AT (model X.prog X.w) X.A (Kf scope X.env.globals (t4 X.env.cells scope.names []) [] X.env.qual AE .none (AA X.env)) (λcenv s₄=>
   Dq (model X.prog X.w) X.A (.compStart (.ListComp elt [⟨tg,iter,ifs,0⟩] scope pos) 0 (.ref it) acc {cenv with scope:=relabel scope X.env}) (RR acc cenv.locals) s₄) E s₃) E s2:=by
 have hp:=I2.hok.fresh (AU s2.heap.objs.size);obtain⟨W,⟨m0,w0⟩,turn⟩:=h s2.heap.objs.size hp;refine BY (IX S.nocell (by intro y hy;simp at hy) (λh₁ hns₁ hsb₁=>?_) S.kind);dsimp only at hns₁ hsb₁ ⊢;have I3:Inv X pins σ (upd H2 s2.heap.objs.size (.lst [])) {s2 with heap:=s2.heap.push {cls:=.type "list",dict:=AE,data:=.seq ([]:List AF).toArray}}:=
  I2.laid (t':=s2.toks) (λb u e=>AQ _ e) (AU _) ⟨BU _,[],0,.nil,Ap _ rfl⟩
 have hlt2:∀b∈fp,b<s2.heap.objs.size:=λb hb=>by
  obtain⟨o,e,_⟩:=T.obj _ _ st2 b hb;exact Au e
 have f3:∀b∈fp,z7 X pins (upd H2 s2.heap.objs.size (.lst [])) b:=λb hb=>by
  obtain⟨q0,q⟩:=f2 b hb;exact⟨by rw[i7 (BJ (hlt2 b hb))];exact q0,q⟩
 generalize hH3:(s2.heap.push {cls:=.type "list",dict:=AE,data:=.seq ([]:List AF).toArray}:BC)=g3 at I3 hns₁ hsb₁ ⊢;have hsz:g3.objs.size=s2.heap.objs.size+1:=by rw[<-hH3,FV]
 have hlt3:∀b∈fp,b<g3.objs.size:=λb hb=>by rw[hsz];exact Dt (hlt2 b hb)
 have k3:∀b o,g3.get? b=AA o->h₁.get? b=AA o:=λb o e=>hsb₁.extBut b o (BJ (Au e)) (AQ _ e);have st3:tn 0 g3:=T.keep _ _ _ st2 λb _ o e=>by rw[<-hH3];exact AQ _ e
 have st4:tn 0 h₁:=T.keep _ _ _ st3 λb _ o e=>k3 b o e;have I4:Inv (X.comp scope Nc g3.objs.size fp pins {s2 with heap:=g3} (upd H2 s2.heap.objs.size (.lst []))) [] (F8 fr k σ) (upd H2 s2.heap.objs.size (.lst [])) {s2 with heap:=h₁,toks:=s2.toks+([]:List (Str×AF)).length}:=
  bz6 (s:={s2 with heap:=g3}) S I3 (AU _) f3 hlt3 k3 hns₁
 generalize hXc:X.comp scope Nc g3.objs.size fp pins {s2 with heap:=g3} (upd H2 s2.heap.objs.size (.lst []))=Xc at I4;have eA:Xc.A=X.A:=by rw[<-hXc];rfl
 have eP:Xc.prog=X.prog:=by rw[<-hXc];rfl
 have ew:Xc.w=X.w:=by rw[<-hXc];rfl
 have eK:Xc.K=X.K:=by rw[<-hXc];rfl
 have ec:Xc.calm=AC:=by rw[<-hXc];exact hc
 have ee:Xc.env=Kb scope (t4 X.env.cells scope.names []) g3.objs.size X.env:=by rw[<-hXc];rfl
 have ex:Xc.xe=λ_ _=>False:=by rw[<-hXc];rfl
 have T':Turn Xc.prog Xc.w Xc.K tg J fp it tn:=by rw[eP,ew,eK];exact T
 have stat:∀{H':Hp},(∀b∈fp,H' b=AE)->∀b∈fp,z7 Xc [] H' b:=λhn b hb=>by
  obtain⟨q0,q1,q2,q3,q4,q5⟩:=f3 b hb;subst hXc;refine⟨hn b hb,BJ (hlt3 b hb),λz=>?_,.inl hb,λx c e=>q4 x c (L4 e).1,λp hp=>q5 p ?_⟩
  ·rcases AM.mp (I3.stkSub b z)with e|e
   ·exact q1 e
   ·exact q2 e
  ·have:p∈(X.pn++pins)++[]:=hp;simpa using this
 have loop:∀s₃:AJ,s₃={s2 with heap:=h₁,toks:=s2.toks+([]:List (Str×AF)).length} ->
   Dq (model X.prog X.w) X.A (.compLoop (.ListComp elt [⟨tg,iter,ifs,0⟩] scope pos) 0 (.ref it) (.ref s2.heap.objs.size) (Kb scope (t4 X.env.cells scope.names []) g3.objs.size X.env)) (RR (.ref s2.heap.objs.size) g3.objs.size) s₃:=by
  rintro s₃ rfl;rw[<-ee,<-eA,<-eP,<-ew];refine bw4 (λn s'=>∃i σ' H',Inv Xc [] σ' H' s'∧tn i s'.heap∧(∀b∈fp,H' b=AE)∧W i n σ' H') ?_ m0 ⟨0,_,_,I4,st4,λb hb=>(f3 b hb).1,w0⟩;rintro n s5 ⟨i,σ5,H5,I5,st5,fr5,w5⟩
  rcases turn i n σ5 H5 w5 with⟨stop,qn⟩|⟨go,N,hN,step⟩
  ·refine thn (T'.done Xc rfl rfl rfl ec i [] s5 σ5 H5 _ I5 (stat fr5) st5 stop) λr s6⟨hr,I6⟩=>?_;subst hr;subst hXc;obtain⟨m',hm,_⟩:=id I6.loc;exact hRR _ _ H5 s6 _ _ m' I3 (AU _) (b47 I3 f3 I6) I6.free hm qn
  ·refine thn (T'.item Xc rfl rfl rfl ec i [] s5 σ5 H5 _ I5 (stat fr5) st5 go) λr s6⟨u,hr,h6⟩=>?_;subst hr;refine thn h6 λ_ s7⟨x,H7,I7,r7,y7,st7,fr7⟩=>?_;have I7':=I7.pinned (stat fr7) (T.obj _ _ st7);have hgX:PG Xc tg g:=by rw[<-hXc];exact hg _ _ _ _ _
   have htX:PCs Xc ifs tc:=by rw[<-hXc];exact ht _ _ _ _ _
   have heX:PE Xc elt te:=by rw[<-hXc];exact he _ _ _ _ _
   have again:∀{s9:AJ}{σ9:St}{H9:Hp},Inv Xc ([]++V7 fp s7.heap) σ9 H9 s9->N σ9 H9->∃m,m<n∧∃i σ' H',Inv Xc [] σ' H' s9∧tn i s9.heap∧(∀b∈fp,H' b=AE)∧W i m σ' H':=λ{s9 σ9 H9}I9 n9=>by
    obtain⟨m',hm,w9⟩:=hN σ9 H9 n9;refine⟨m',hm,i+1,σ9,H9,I9.unpinned,T.keep _ _ _ st7 λb hb o e=>(I9.pin (b,o) (BD _ (BD _ (Y1 hb e)))).1,λb hb=>?_,w9⟩;obtain⟨o,e,d⟩:=T.obj _ _ st7 b hb;exact(I9.pin (b,o) (BD _ (BD _ (Y1 hb e)))).2.1
   have hgw:=hgX _ s7 σ5 H7 x u _ I7' r7 (step x H7 y7);rw[ex]at hgw;refine thn hgw λ_ s8⟨σ8,H8,I8,q8⟩=>?_;have htw:=htX _ s8 σ8 H8 _ I8 q8;rw[ex]at htw;refine thn htw λok s9⟨H9,I9,q9⟩=>?_;cases ok with
   |false=>
    rw[if_neg AH]at q9 ⊢;exact again I9 q9
   |true=>
    rw[if_pos rfl]at q9 ⊢;have hew:=heX _ s9 σ8 H9 _ I9 q9;rw[ex]at hew;refine thn hew λxv s10⟨v,H10,I10,r10,ys,hys,hlen,n10⟩=>?_;have hap:=au9 (X:=Xc) _ s10 σ8 H10 (.ref s2.heap.objs.size) [v] (.ref s2.heap.objs.size) [xv] (λ_ H11=>N σ8 H11) I10 rfl (.cons r10 .nil) ⟨_,ys,v,rfl,rfl,hys,hlen,n10⟩;rw[ex]at hap;exact thn hap λ_ s11⟨_,H11,I11,_,n11⟩=>again I11 n11
 exact codeAny_compStart_list (loop _ rfl) (T.self _ 0 _ _ _ st4 (loop _ rfl))
def au0(S:CompScope X scope Nc fr k)(I:Inv X pins σ H s):∀x∈scope.names,x.2=.free->(X.env.cells.lookup x.1).isSome=AC:=λx hx hf=>by
 obtain⟨c,e⟩:=I.ok.has x.1 (S.frees x hx hf);rw[e];rfl
def cj9(hc:X.calm=AC)(S:CompScope X scope Nc fr k)(hi:PI X tg iter wi)(hg:∀C fp pins s H,PG (X.comp scope Nc C fp pins s H) tg g)(ht:∀C fp pins s H,PCs (X.comp scope Nc C fp pins s H) ifs tc)(he:∀C fp pins s H,PE (X.comp scope Nc C fp pins s H) elt te)
  (hs:∀x,DH iter X.env x=pure x:=by intro _;rfl):PE X (.ListComp elt [⟨tg,iter,ifs,0⟩] scope pos) (λσ H Q=>an1 fr k wi g tc te Q σ H):=by
 intro pins s σ H Q I h;rw[eval_ListComp];refine Hf (use:=AE) (cl:=t4 X.env.cells scope.names []) rfl hs (ah3 (au0 S I)) S.kind S.names ?_;refine thn (hi pins s σ H _ I h) λxv s1 h1=>thn h1 λitv s2 h2=>?_;obtain⟨it,fp,tn,J,H2,e,I2,T,st2,f2,h⟩:=h2;subst e;refine au3 (RR:=λacc C=>compPost (model X.prog X.w) X.A X.xe AE (EP X pins σ Q) acc C) hc S hg ht he I2 T st2 f2 h ?_;intro D C H' s' s3 H3 m' I3 hC I' hn hns q;exact⟨m',hns,λh' sb=>⟨.ref D,H',at3 I3 hC I' hn sb,rfl,q⟩⟩
def bz7{i:Nat}{y:Str}{py spos:Pos}(hc:X.calm=AC)(hN:X.N.Nodup)(hiy:X.N[i]?=AA y)(hy:Loc X.env.scope y)(hfy:X.fn y=AC∨X.env.scope.names.lookup y=AA .local)
  (S:CompScope X scope Nc fr k) (hi:PI X tg iter wi) (hg:∀C fp pins s H,PG (X.comp scope Nc C fp pins s H) tg g) (ht:∀C fp pins s H,PCs (X.comp scope Nc C fp pins s H) ifs tc) (he:∀C fp pins s H,PE (X.comp scope Nc C fp pins s H) elt te)
  (hsw:Cb (.ListComp elt [⟨tg,iter,ifs,0⟩] scope pos) (AA (.Name y py)) spos.line X.env=pure AC)
  (hs:∀x,DH iter X.env x=pure x:=by intro _;rfl):PS X (.Assign [.Name y py] (.ListComp elt [⟨tg,iter,ifs,0⟩] scope pos) spos) (λD σ H=>an1 fr k wi g tc te (λv H'=>D.nx (σ.set i (AA v)) H') σ H):=by
 intro pins s σ H D I h;rw[exec_Assign_Name_used _ _ _ _ hsw];refine AD (Hb (AD ?_));show AT _ X.A (do let _ <-comprehension (.ListComp elt [⟨tg,iter,ifs,0⟩] scope pos) scope X.env _ (newList []) AG (eval iter X.env) (AA (assign (.Name y py) X.env))) _ _ s;refine AD (Bd (Hf (use:=AA (assign (.Name y py) X.env)) (cl:=t4 X.env.cells scope.names []) (Q:=λ_ s'=>SP X pins D .next s') rfl hs (ah3 (au0 S I)) S.kind S.names ?_) (λ_ s' hq=>AK (AK hq)) λ_ _ e=>e);refine thn (hi pins s σ H _ I h) λxv s1 h1=>thn h1 λitv s2 h2=>?_;obtain⟨it,fp,tn,J,H2,e,I2,T,st2,f2,h⟩:=h2;subst e;refine au3 (RR:=λacc C=>compPost (model X.prog X.w) X.A X.xe (AA (assign (.Name y py) X.env)) (λ_ s'=>SP X pins D .next s') acc C) (fin:=λv H'=>D.nx (σ.set i (AA v)) H') hc S hg ht he I2 T st2 f2 h ?_;intro D' C H' s' s3 H3 m' I3 hC I' hn hns q;show AT _ X.A (assign (.Name y py) X.env (.ref D')) _ _ s';obtain⟨oC,es,ep,hoC,hdC,hrest⟩:=id hns;have neL:C≠X.env.locals:=λz=>absurd (Al I3.lt hC) (by rw[z];exact DC _);have nfs:C∉X.fs:=I3.nofs hC;have I'':Inv X (pins++[(C,oC)]) σ H' s':=I'.pins_of λp hp=>by
  rcases Bc.mp hp with z|z
  ·exact I'.pin p (BD _ z)
  ·have e:p=(C,oC):=by simpa using z
   subst e;exact⟨hoC,hn,neL,nfs,λv z=>by rw[hdC]at z;cases z⟩
 refine JS (Y7 I'' hN hiy hy (v:=.ref D') rfl (λs'' J''=>?_) hfy);obtain⟨p1,p2,_⟩:=J''.pin (C,oC) (by simp);refine⟨m',⟨oC,es,ep,p1,hdC,hrest⟩,λh' sb=>⟨_,H',at3 I3 hC J''.unpinned p2 sb,q⟩⟩
end
end L2
namespace PySem
section
variable {prog:Ai} {w:Ax} {A:BL} {E:AF->AJ->Prop} {s:AJ}
def ar3{it l:AI}{i:Nat}{items}{x:AF}{Q:AF->AJ->Prop}(hit:s.heap.IsTupleIter it l i)
  (hl:s.heap.IsTuple l items) (hx:items[i]?=AA x)
  (hQ:∀h',h'.IsTupleIter it l (i+1)->Az it s.heap h'->Q x {s with heap:=h'}) :
  AT (model prog w) A (BZ (.ref it)) Q E s:=by
 obtain⟨o,ho,hc,hd⟩:=id hit;obtain⟨ol,hol,_,nl,hdl⟩:=hl;unfold BZ;refine AD (BK (name:=Ab "__next__") hit.typeIs Ch
  (BI Ch hit.typeIs Gh ?_ (Ga _)))
 show AT _ _ (field (.ref it) 0 >>= _) _ _ s;refine AD (BG ho hd (x:=.ref l) rfl ?_);show AT _ _ (if (An l == Bf)=AC then _ else _) _ _ s;rw [if_neg (show ¬ ((An l == Bf)=AC) from AH)];show AT _ _ (field (.ref it) 1 >>= _) _ _ s;refine AD (BG ho hd (x:=.int i 0) rfl ?_);show AT _ _ (seqItems? (.ref l) >>= _) _ _ s;refine AD (Cj hol hdl ?_);simp only [Du,hx];refine AD (ED ho hd (by simp) (AK ⟨x,rfl,AK (hQ _ ?_ (CQ ..))⟩));exact ⟨_,Ed _ ho (Eg (CN hd _)),(IN ..).trans hc,by
  rw[CN hd];simp[Cm]⟩
def ar4{it l:AI}{i:Nat}{items}{Q:AF->AJ->Prop}(hh:A.handled=AE)
  (hit:s.heap.IsTupleIter it l i) (hl:s.heap.IsTuple l items) (hx:items[i]?=AE)
  (hE:∀h' e,Ei it s.heap h'->(∃o,h'.get? e=AA o∧o.cls=.type "StopIteration")->E (.ref e) {s with heap:=h'}) :
  AT (model prog w) A (BZ (.ref it)) Q E s:=by
 obtain⟨o,ho,hc,hd⟩:=id hit;obtain⟨ol,hol,_,nl,hdl⟩:=hl;unfold BZ;refine AD (BK (name:=Ab "__next__") hit.typeIs Ch
  (BI Ch hit.typeIs Gh ?_ (Ga _)))
 show AT _ _ (field (.ref it) 0>>=_) _ _ s;refine AD (BG ho hd (x:=.ref l) rfl ?_);show AT _ _ (if(An l==Bf)=AC then _ else _) _ _ s;rw[if_neg (show ¬((An l==Bf)=AC) from AH)];show AT _ _ (field (.ref it) 1>>=_) _ _ s;refine AD (BG ho hd (x:=.int i 0) rfl ?_);show AT _ _ (seqItems? (.ref l)>>=_) _ _ s;refine AD (Cj hol hdl ?_);simp only[Du,hx];refine AD (DU (AD (ED ho hd (by simp) ?_)));show AT _ _ (Kg (.type "StopIteration") []>>=_) _ _ _;refine AD ?_;simp only[Kg,Kh];refine AD (BY ?_ (by size_fits));refine AD (m:=FR _ _) (FT (a:=Bf) (by first|rfl|(simp only[FR];rfl)) ?_);refine BY ?_ (by size_fits);simp only[raiseNew];refine AD (wpAny_handled ?_)
 first|rw[show A.in1.handled=AE from hh]|rw[hh]
 refine AD (AK (wpAny_throw ?_));exact hE _ _ (((CQ ..).extBut.push _).push _) ⟨_,Ap _ rfl,rfl⟩
end
def Draws.tuple{prog:Ai}{w:Ax}{A:BL}(hh:A.handled=AE)(it l:AI)(hne:l≠it)(items:Array AF):
  Draws prog w A it [it,l] items.size (λi v=>items[i]?=AA v) (λi h=>h.IsTupleIter it l i∧h.IsTuple l items) where
 live:=λ_ _ st=>let⟨o,ho,_⟩:=st.1;⟨o,ho⟩
 frame:=λ_ _ _ st hk=>⟨st.1.at λo e=>hk it (by simp) o e,let⟨o,ho,r⟩:=st.2;⟨o,hk l (by simp) o ho,r⟩⟩
 item:=λi s Q E hi st hQ=>by
  refine ar3 st.1 st.2 (x:=items[i]) (by simp[hi]) λh' hit' hs'=>?_;exact hQ _ h' s.toks (by simp[hi]) ⟨hit',st.2.extBut hs'.extBut hne⟩ hs'
 done:=λs Q E st hE=>ar4 hh st.1 st.2 (by simp) hE
open AutoSeq1 (wpAny_loadPart') in
def bu7(l:AI)(items:Array AF)(n:Nat)(dct:Option AI)(sl:Array (Option AF)):
  IY (Cf.«enumerate.__new__» ⟨[.type "enumerate",.ref l],[]⟩) (λ_ R s=>s.heap.get? l=AA {cls:=.type "tuple",dict:=dct,data:=.seq items n,slots:=sl} ∧
   R (.ok (.ret (.ref (s.heap.push {cls:=.type "tuple_iterator",data:=.fields #[.ref l,.int 0 0]}).objs.size)))
    {s with heap:=(s.heap.push {cls:=.type "tuple_iterator",data:=.fields #[.ref l,.int 0 0]}).push {cls:=.type "enumerate",data:=.fields #[.none,.bool AG,.ref s.heap.objs.size,Cm 0,.none,.none]}}):=
 .of_wp λprog w A R s h=>by
  obtain⟨hp,g,d,tk,os⟩:=s;obtain⟨hl,h⟩:=h;have hsub:=sub_enumerate;have hL:Heap.IsTuple (Shared.heap ⟨hp,g,d,tk,os⟩) l items:=⟨_,hl,rfl,n,rfl⟩
  wp_walk using Ey hl
  refine wpAny_stack_any λst=>AK ?_
  split
  ·rename_i c _ _ _ _ _;cases(c==EI "enumerate")
   ·wp_walk using Ey hl,EE hL
    exact⟨_,rfl,h⟩
   ·wp_walk using Ey hl,EE hL
    exact⟨_,rfl,h⟩
  ·wp_walk using Ey hl,EE hL
   exact⟨_,rfl,h⟩
end PySem
namespace PySem
section
variable {prog:Ai} {w:Ax} {A:BL} {E:AF->AJ->Prop} {s:AJ}
def ar5{l:AI}{items:Array AF}{Q:AF->AJ->Prop}(hL:s.heap.IsTuple l items)
  (h:∀h',Ki h' (s.heap.objs.size+1) s.heap.objs.size 0 .none->h'.IsTupleIter s.heap.objs.size l 0->h'.objs.size=s.heap.objs.size+2 ->
   (∀b o,s.heap.get? b=AA o->h'.get? b=AA o)->Q (.ref (s.heap.objs.size+1)) {s with heap:=h'}) :
  AT (model prog w) A (call (.type "enumerate") [.ref l]) Q E s:=by
 obtain⟨⟨c,dct,dt,sl⟩,hl,hc,n,hd⟩:=hL;replace hc:c=.type "tuple":=hc;replace hd:dt=.seq items n:=hd;subst hc hd;refine callType_new F.called_enumerate (by decide) (F.typeCall_enumerate_1 _) (F.newCall_enumerate_1 _) (λobj=>IF obj _) F.entry_enumerate_new
  (bu7 l items n dct sl) ⟨hl,?_⟩
 have hz:(s.heap.push {cls:=.type "tuple_iterator",data:=.fields #[.ref l,.int 0 0]}).objs.size=s.heap.objs.size+1:=FV ..;show _∧_;rw[hz];have he:Ki ((s.heap.push {cls:=.type "tuple_iterator",data:=.fields #[.ref l,.int 0 0]}).push
   {cls:=.type "enumerate",data:=.fields #[.none,.bool AG,.ref s.heap.objs.size,Cm 0,.none,.none]}) (s.heap.objs.size+1) s.heap.objs.size 0 .none:=by
  have:=Ap (s.heap.push {cls:=.type "tuple_iterator",data:=.fields #[.ref l,.int 0 0]})
   (o:={cls:=.type "enumerate",data:=.fields #[.none,.bool AG,.ref s.heap.objs.size,Cm 0,.none,.none]}) rfl
  rw[hz]at this;exact this
 refine⟨⟨_,he,rfl⟩,h _ he ⟨_,AQ _ (Ap _ rfl),rfl,rfl⟩ (by rw[FV,hz]) λb o x=>AQ _ (AQ _ x)⟩
end
end PySem
namespace L2
open PySem PySem.Spec PyProof.Rows
variable{pins:List (AI×Obj)}{σ:St}{elts:List AS}{k0:Nat}{tp:Pos}
section
variable {X:Cx} {H:Hp} {s:AJ} {h':BC}
def Inv.turnedNew{t':Nat}{ch:List AI}{o:HO}(I:Inv X pins σ H s)(hch:∀b∈ch,z7 X pins H b)(k:∀b u,b∉ch->s.heap.get? b=AA u->h'.get? b=AA u)(ex:∀b∈ch,∃u,h'.get? b=AA u)
  (new:l9 X.prog X.w (upd H s.heap.objs.size o) h' s.heap.objs.size o):Inv X pins σ (upd H s.heap.objs.size o) {s with heap:=h',toks:=t'}:=by
 have hT:H s.heap.objs.size=AE:=I.hok.fresh (AU _);have neT:∀b u,s.heap.get? b=AA u->b≠s.heap.objs.size:=λb u e=>BJ (Au e);have nch:∀b u,H b=AA u->b∉ch:=λb u e z=>by rw[(hch b z).1]at e;cases e
 refine I.step (g':=s.gens) (d':=s.drawn) (ch:=ch) (λb hb=>?_) (λb u _ _ hc e _=>k b u hc e) (λb u _ _ hc e _=>⟨u.slots,k b u hc e⟩) (λb u _ e n=>by rw[i7 (neT b u e)];exact n)
  (λb u hc e=>⟨u,k b u hc e⟩) (λb xs e=>by rw[i7 (t6 e hT)];exact e) (λb u v e=>by rw[i7 (t6 e hT)];exact e) (λb ps e=>⟨#[],by rw[i7 (t6 e hT),e];simp⟩) (λm hm=>?_) (λb u e=>?_) I.bare
 ·obtain⟨h0,h1,h2,h3,h4,h5⟩:=hch b hb;exact⟨h3,h1,h4,h5⟩
 ·obtain⟨ob,es,ep,ho,r⟩:=hm;exact⟨ob,es,ep,k _ ob (λz=>(hch _ z).2.1 rfl) ho,r⟩
 ·by_cases hb:b=s.heap.objs.size
  ·subst hb;rw[o9]at e;cases e;exact new
  ·rw[i7 hb]at e;refine(I.hok b u e).stay (λc v hc q=>k c v ?_ q) (λc q=>by rw[i7 (t6 q hT)];exact q) λc xs q=>by rw[i7 (t6 q hT)];exact q
   rcases hc with z|z
   ·rw[z];exact nch b u e
   ·exact nch c _ z
def Inv.turnedAll{t':Nat}{ch:List AI}(I:Inv X pins σ H s)(hch:∀b∈ch,z7 X pins H b)(k:∀b u,b∉ch->s.heap.get? b=AA u->h'.get? b=AA u):Inv X pins σ H {s with heap:=h',toks:=t'}:=by
 have nch:∀b u,H b=AA u->b∉ch:=λb u e z=>by rw[(hch b z).1]at e;cases e
 refine I.step (g':=s.gens) (d':=s.drawn) (ch:=ch) (λb hb=>?_) (λb u _ _ hc e _=>k b u hc e) (λb u _ _ hc e _=>⟨u.slots,k b u hc e⟩) (λb u _ e n=>n)
  (λb u hc e=>⟨u,k b u hc e⟩) (λb xs e=>e) (λb u v e=>e) (λb ps e=>⟨#[],by rw[e];simp⟩) (λm hm=>?_) (λb u e=>?_) I.bare
 ·obtain⟨h0,h1,h2,h3,h4,h5⟩:=hch b hb;exact⟨h3,h1,h4,h5⟩
 ·obtain⟨ob,es,ep,ho,r⟩:=hm;exact⟨ob,es,ep,k _ ob (λz=>(hch _ z).2.1 rfl) ho,r⟩
 ·refine(I.hok b u e).stay (λc v hc q=>k c v ?_ q) (λc q=>q) λc xs q=>q
  rcases hc with z|z
  ·rw[z];exact nch b u e
  ·exact nch c _ z
end
noncomputable def Ite(K:AO)(sq:Hp->List V->Prop):It:=
 ⟨λi H=>∃xs x,sq H xs∧xs[i]?=AA x,λi H x H'=>∃t v,H t=AE∧x=.ref t∧H'=upd H t (.tup [.int i,v])∧∀xs,sq H xs->xs[i]?=AA v,λi H=>∃xs,sq H xs∧xs.length=i⟩
def au7{P:Ai}{w:Ax}{K:AO}{sq:Hp->List V->Prop}{e it:AI}{pit:Nat->BC->Prop}{bad:AI->Prop}
  (hei:e≠it) (iobj:∀i h,pit i h->∃o,h.get? it=AA o∧∀v,o.data≠.cell v) (ikeep:∀i h h',pit i h->(∀o,h.get? it=AA o->h'.get? it=AA o)->pit i h')
  (dr:∀(X:Cx),X.prog=P->X.w=w->X.K=K->X.calm=AC->∀(i:Nat)(pins:List (AI×Obj))(s:AJ)(σ:St)(H:Hp)(xs:List V),Inv X pins σ H s->z7 X pins H e->z7 X pins H it->pit i s.heap->(∃old,Ki s.heap e it i old)->sq H xs ->
   ∃(its:List AF)(fp:List AI)(Pv:Nat->AF->Prop)(St:Nat->BC->Prop),f7 xs its∧xs.length<=sizeLine∧Draws P w X.A.in1 it fp its.length Pv St∧e∉fp∧St i s.heap∧(∀j v,Pv j v->its[j]?=AA v)∧∀j h,St j h->pit j h)
  (inj:∀(X:Cx)(pins:List (AI×Obj))(s:AJ)(σ:St)(H:Hp)(xs ys:List V),X.K=K->Inv X pins σ H s->sq H xs->sq H ys->xs=ys) :
  Turn P w K (.Tuple elts k0 tp) (Ite K sq) [e,it] e (λi h=>(∃old,Ki h e it i old)∧pit i h) where
 mem:=by simp
 obj:=λi h st b hb=>by
  rcases AM.mp hb with z|z
  ·subst z;obtain⟨⟨old,he⟩,_⟩:=st;exact⟨_,he,λv z=>by cases z⟩
  ·have z':b=it:=by simpa using z
   subst z';exact iobj i h st.2
 keep:=λi h h' st kk=>by
  obtain⟨⟨old,he⟩,hp⟩:=st;exact⟨⟨old,kk e (by simp) _ he⟩,ikeep i h h' hp λo q=>kk it (by simp) o q⟩
 item:=by
  intro X hP hw hK hc i pins s σ H E I hf st hg;obtain⟨xs,x,hq,hx⟩:=hg;obtain⟨its,fp,Pv,St,rv,hz,D,hef,hst,hPv,hSt⟩:=dr X hP hw hK hc i pins s σ H xs I (hf e (by simp)) (hf it (by simp)) st.2 st.1 hq;obtain⟨⟨old,he⟩,hp⟩:=st;have hi:i<its.length:=by
   rw[<-rv.length];exact(AR.mp hx).1
  refine wpAny_pyNext_enum_itemD D he hst hi hei hef λy h1 tk hPy ho hst' hT hsz hk=>?_;obtain⟨u,hu,ru⟩:=rv.get hx;have ey:y=u:=by
   have q:=hPv i y hPy;rw[hu]at q;exact(Ar q).symm
  subst ey;refine⟨_,rfl,?_⟩;have hT':H s.heap.objs.size=AE:=I.hok.fresh (AU _);have elt:e<s.heap.objs.size:=Au he;refine wpAny_letOwnedTupleGo_enum ho λh2 he2 hs2=>?_;have q2:Az e h1 h2:=hs2;have kk:∀b u,b∉[e,it]->s.heap.get? b=AA u->h2.get? b=AA u:=λb u hb q=>by
   have h1':b≠e:=λz=>hb (by simp[z]);have h2':b≠it:=λz=>hb (by simp[z]);exact(q2.2 b h1').trans (hk b u h1' h2' q)
  have hT2:h2.get? s.heap.objs.size=AA {cls:=.type "tuple",data:=.seq #[.int i tk,y]}:=(q2.2 _ (GJ elt)).trans hT;have pit2:pit (i+1) h2:=ikeep _ _ _ (hSt _ _ hst') λo q=>(q2.2 it (Av hei)).trans q;have I1:Inv X pins σ (upd H s.heap.objs.size (.tup [.int i,x])) {s with heap:=h2,toks:=tk+1}:=by
   refine I.turnedNew (ch:=[e,it]) hf kk (λb hb=>?_) ?_
   ·rcases AM.mp hb with z|z
    ·exact⟨_,by rw[z];exact he2⟩
    ·have z':b=it:=by simpa using z
     subst z';obtain⟨o,q,_⟩:=iobj _ _ pit2;exact⟨o,q⟩
   ·exact⟨by show 2<=sizeLine;decide,[.int i tk,y],.cons ⟨_,rfl⟩ (.cons ru .nil),⟨_,hT2,rfl,rfl,_,rfl⟩⟩
  refine⟨.ref s.heap.objs.size,_,I1,rfl,⟨s.heap.objs.size,x,hT',rfl,rfl,λys hy=>by rw[inj X pins s σ H ys xs hK I hy hq];exact hx⟩,⟨⟨_,by have:=he2;simpa using this⟩,pit2⟩,λb hb=>?_⟩;have nb:b≠s.heap.objs.size:=by
   rcases AM.mp hb with z|z
   ·rw[z];exact BJ elt
   ·have z':b=it:=by simpa using z
    subst z';obtain⟨o,q,_⟩:=iobj _ _ hp;exact BJ (Au q)
  rw[i7 nb];exact(hf b hb).1
 done:=by
  intro X hP hw hK hc i pins s σ H E I hf st hg;obtain⟨xs,hq,hx⟩:=hg;obtain⟨its,fp,Pv,St,rv,hz,D,hef,hst,hPv,hSt⟩:=dr X hP hw hK hc i pins s σ H xs I (hf e (by simp)) (hf it (by simp)) st.2 st.1 hq;obtain⟨⟨old,he⟩,hp⟩:=st;have hi:i=its.length:=by rw[<-rv.length];exact hx.symm
  rw[hi]at hst;refine wpAny_pyNext_enum_endD D he hst λh1 eb=>⟨rfl,?_⟩;exact I.turnedAll (t':=s.toks) (ch:=[e,it]) hf λb u hb q=>eb b u (λz=>hb (by simp[z])) q
 self:=λA i s Q E st h=>by
  obtain⟨⟨old,he⟩,_⟩:=st;exact EO he h
def aa8{h:BC}{a b:AI}{o u:Obj}(ha:h.get? a=AA o)(hb:h.get? b=AA u)(d:o.cls≠u.cls):a≠b:=λz=>by
 subst z;rw[ha]at hb;cases hb;exact d rfl
section
variable {X:Cx}
def ar7:BA "enumerate"=AA (.type "enumerate"):=by decide+kernel
def as0:BA "reversed"=AA (.type "reversed"):=by decide+kernel
def b97{H1:Hp}{s1:AJ}{R:It->Hp->Prop}{l:AI}{xs:List V}{E:AF->AJ->Prop}(I1:Inv X pins σ H1 s1)(hq:SqL X.K H1 l xs)(q:R (Ite X.K λH xs=>SqL X.K H l xs) H1):
  AT (model X.prog X.w) X.A (call (.type "enumerate") [.ref l]) (λv s=>AT (model X.prog X.w) X.A (Hu v) (PIE X pins σ (.Tuple elts k0 tp) R) E s) E s1:=by
 obtain⟨its,rv,pl,hz⟩:=I1.list hq;refine call_enumerate_list pl.isList λh' he hit hsz kk=>EO he ?_;have I2:Inv X pins σ H1 {s1 with heap:=h'}:=I1.kept (t':=s1.toks) kk;have hlt:∀b∈[s1.heap.objs.size+1,s1.heap.objs.size],s1.heap.objs.size<=b:=λb hb=>by
  rcases AM.mp hb with z|z
  ·rw[z];exact Gv _
  ·have z':b=s1.heap.objs.size:=by simpa using z
   rw[z'];exact AU _
 refine⟨s1.heap.objs.size+1,[s1.heap.objs.size+1,s1.heap.objs.size],_,_,H1,rfl,I2,au7 (sq:=λH xs=>SqL X.K H l xs) (pit:=λi h=>h.IsListIter s1.heap.objs.size l i) (bad:=λ_=>True) (Em _) ?_ ?_ ?_ ?_,⟨⟨_,by simpa using he⟩,hit⟩,λb hb=>I1.fpOk (hlt b hb) (I1.hok.fresh (hlt b hb)),q⟩
 ·rintro i h ⟨o,ho,hc,hd⟩;exact⟨o,ho,λv z=>by rw[hd]at z;cases z⟩
 ·exact λi h h' st kk=>st.at kk
 ·intro Y hP hw hK hc i pins s σ H xs I f1 f2 hit he hq;rw[<-hK]at hq;obtain⟨its,rv,pl,hz⟩:=I.list hq;obtain⟨old,he⟩:=he;obtain⟨oi,hoi,hci,hdi⟩:=id hit;obtain⟨ol,nl,hol,hcl,hddl,hdl⟩:=id pl;have n1:l≠s1.heap.objs.size:=aa8 hol hoi (by rw[hcl,hci];decide);have n2:s1.heap.objs.size+1≠l:=aa8 he hol (by rw[hcl];show EI "enumerate"≠_;decide);refine⟨its,[s1.heap.objs.size,l],(λi v=>its.toArray[i]?=AA v),(λi h=>h.IsListIter s1.heap.objs.size l i∧h.IsList l its.toArray),rv,hz,?_,?_,⟨hit,pl.isList⟩,λj v z=>by simpa using z,λj h z=>z.1⟩
  ·have D:=Draws.list (prog:=X.prog) (w:=X.w) (A:=Y.A.in1) (by exact I.ok.hd hc) s1.heap.objs.size l n1 its.toArray;simpa using D
  ·intro z
   rcases AM.mp z with z|z
   ·exact Em _ z
   ·exact n2 (by simpa using z)
 ·intro Y pins s σ H xs ys hK I h1 h2;rw[<-hK]at h1 h2;exact I.list_inj h1 h2
def b87{H1:Hp}{s1:AJ}{R:It->Hp->Prop}{l:AI}{xs:List V}{E:AF->AJ->Prop}(I1:Inv X pins σ H1 s1)(hq:SqT X.K H1 l xs)(q:R (Ite X.K λH xs=>SqT X.K H l xs) H1):
  AT (model X.prog X.w) X.A (call (.type "enumerate") [.ref l]) (λv s=>AT (model X.prog X.w) X.A (Hu v) (PIE X pins σ (.Tuple elts k0 tp) R) E s) E s1:=by
 obtain⟨its,rv,pl,hz⟩:=I1.tuple hq;refine ar5 (show s1.heap.IsTuple l its.toArray from pl) λh' he hit hsz kk=>EO he ?_;have I2:Inv X pins σ H1 {s1 with heap:=h'}:=I1.kept (t':=s1.toks) kk;have hlt:∀b∈[s1.heap.objs.size+1,s1.heap.objs.size],s1.heap.objs.size<=b:=λb hb=>by
  rcases AM.mp hb with z|z
  ·rw[z];exact Gv _
  ·have z':b=s1.heap.objs.size:=by simpa using z
   rw[z'];exact AU _
 refine⟨s1.heap.objs.size+1,[s1.heap.objs.size+1,s1.heap.objs.size],_,_,H1,rfl,I2,au7 (sq:=λH xs=>SqT X.K H l xs) (pit:=λi h=>h.IsTupleIter s1.heap.objs.size l i) (bad:=λ_=>True) (Em _) ?_ ?_ ?_ ?_,⟨⟨_,by simpa using he⟩,hit⟩,λb hb=>I1.fpOk (hlt b hb) (I1.hok.fresh (hlt b hb)),q⟩
 ·rintro i h ⟨o,ho,hc,hd⟩;exact⟨o,ho,λv z=>by rw[hd]at z;cases z⟩
 ·exact λi h h' st kk=>st.at kk
 ·intro Y hP hw hK hc i pins s σ H xs I f1 f2 hit he hq;rw[<-hK]at hq;obtain⟨its,rv,pl,hz⟩:=I.tuple hq;obtain⟨old,he⟩:=he;obtain⟨oi,hoi,hci,hdi⟩:=id hit;obtain⟨ol,hol,hcl,nl,hdl⟩:=id pl;have n1:l≠s1.heap.objs.size:=aa8 hol hoi (by rw[hcl,hci];decide);have n2:s1.heap.objs.size+1≠l:=aa8 he hol (by rw[hcl];show EI "enumerate"≠_;decide);refine⟨its,[s1.heap.objs.size,l],(λi v=>its.toArray[i]?=AA v),(λi h=>h.IsTupleIter s1.heap.objs.size l i∧h.IsTuple l its.toArray),rv,hz,?_,?_,⟨hit,pl⟩,λj v z=>by simpa using z,λj h z=>z.1⟩
  ·have D:=Draws.tuple (prog:=X.prog) (w:=X.w) (A:=Y.A.in1) (by exact I.ok.hd hc) s1.heap.objs.size l n1 its.toArray;simpa using D
  ·intro z
   rcases AM.mp z with z|z
   ·exact Em _ z
   ·exact n2 (by simpa using z)
 ·intro Y pins s σ H xs ys hK I h1 h2;rw[<-hK]at h1 h2;exact I.tuple_inj h1 h2
noncomputable def Itv(K:AO)(a:AI)(n:Nat):It:=
 ⟨λi H=>(∃xs,SqL K H a xs∧xs.length=n)∧i<n,λi H x H'=>H'=H∧∀xs,SqL K H a xs->xs[n-1-i]?=AA x,λi H=>(∃xs,SqL K H a xs∧xs.length=n)∧i=n⟩
def b90{P:Ai}{w:Ax}{K:AO}{tg:AS}(a it:AI)(n:Nat):Turn P w K tg (Itv K a n) [it] it (λi h=>h.IsRevIter it a ((n:Int)-1-(i:Int))) where
 mem:=by simp
 obj:=λi h st b hb=>by
  have e:b=it:=by simpa using hb
  subst e;obtain⟨o,e,c,d⟩:=st;exact⟨o,e,λv z=>by rw[d]at z;cases z⟩
 keep:=λi h h' st k=>st.at λo e=>k it (by simp) o e
 item:=by
  intro X hP hw hK hc i pins s σ H E I hf st hg;subst hP hw hK;obtain⟨⟨xs,hq,hn⟩,hi⟩:=hg;subst hn;obtain⟨its,rv,p,hz⟩:=I.list hq;obtain⟨x,hx⟩:∃x,xs[xs.length-1-i]?=AA x:=⟨_,AL (by lia)⟩;obtain⟨u,hu,ru⟩:=rv.get hx;obtain⟨f0,f1,f2,f3,f4,f5⟩:=hf it (by simp);have e:(xs.length:Int)-1-(i:Int)=((xs.length-1-i:Nat):Int):=by lia
  rw[e]at st;refine wpAny_pyNext_rev_item st p.isList (x:=u) (by simpa using hu) λh' st' sb=>?_;have I1:Inv X pins σ H {s with heap:=h'}:=I.turned (t':=s.toks) (λb o hb e=>(sb.2 b hb).trans e) f0 f1 f3 f4 f5;obtain⟨o,e',c,d⟩:=id st';have e2:((xs.length-1-i:Nat):Int)-1=(xs.length:Int)-1-((i+1:Nat):Int):=by lia
  rw[e2]at st';exact⟨u,rfl,W5 (s:={s with heap:=h'}) e' c d (by decide) ⟨x,H,I1,ru,⟨rfl,λys hy=>by rw[I.list_inj hy hq];exact hx⟩,st',λb hb=>(hf b hb).1⟩⟩
 done:=by
  intro X hP hw hK hc i pins s σ H E I hf st hg;subst hP hw hK;obtain⟨_,hi⟩:=hg;obtain⟨f0,f1,f2,f3,f4,f5⟩:=hf it (by simp);have e:(n:Int)-1-(i:Int)=-1:=by lia
  rw[e]at st;exact wpAny_pyNext_rev_end (I.ok.hd hc) st λh' eb=>⟨rfl,I.turned (t':=s.toks) (λb o hb e=>eb b o hb e) f0 f1 f3 f4 f5⟩
 self:=λ_ _ _ _ _ st h=>IZ st h
noncomputable def cz6(K:AO)(ta:TA):TI:=λσ H R=>ta σ H λvs H1=>∃a xs,vs=[.ref a]∧SqL K H1 a xs∧R (Itv K a xs.length) H1
def ce5{tg a:AS}{ta:TA}{p pos:Pos}(hg:Gl X "reversed")(hm:X.mg "reversed"=AE)(ha:PA X [a] ta)(hs:Ak [a] X.env=[(AG,eval a X.env)]:=by rfl):
  PI X tg (.Call (.Name "reversed" p) [a] [] pos) (cz6 X.K ta):=by
 intro pins s σ H R I h;refine IS (F5 I hg hm as0 (BB (thn (ha pos pins s σ H _ I h) λus s1⟨vs,H1,I1,r1,q1⟩=>?_) hs rfl));obtain⟨l,xs,e,hq,q⟩:=q1;subst e;obtain⟨u,rfl,ru⟩:=r1.one;cases ru;obtain⟨its,rv,pl,hz⟩:=I1.list hq;refine call_reversed_list pl.isList ?_;have hit:(s1.heap.push (revObj l ((its.toArray.size:Int)-1))).IsRevIter s1.heap.objs.size l ((xs.length:Int)-1-((0:Nat):Int)):=by
  refine⟨_,Ap _ rfl,rfl,?_⟩;have e:((its.toArray.size:Nat):Int)-1=(xs.length:Int)-1-((0:Nat):Int):=by rw[AY,<-rv.length];lia
  rw[e];rfl
 refine IZ (s:={s1 with heap:=s1.heap.push (revObj l ((its.toArray.size:Int)-1))}) hit ?_;refine⟨s1.heap.objs.size,[s1.heap.objs.size],_,_,H1,rfl,I1.kept (t':=s1.toks) λb o e=>AQ _ e,b90 l _ xs.length,hit,λb hb=>?_,q⟩;have e:b=s1.heap.objs.size:=by simpa using hb
 subst e;exact I1.fpOk (AU _) (I1.hok.fresh (AU _))
def b18(hc:X.calm=AC):E4 X (.builtin "sum") (λxs H Q=>∃(p:AI)(ns:List Int),xs=[.ref p]∧SqL X.K H p (ns.map V.int)∧Q (.int ns.sum) H):=by
 intro pins s σ H xs us Q I r h;obtain⟨p,ns,rfl,hq,q⟩:=h;obtain⟨u,rfl,ru⟩:=r.one;cases ru;obtain⟨its,rv,pl,hz⟩:=I.list hq;have hi:GP its ns:=b03 rv;have hn:=hi.numsOf;obtain⟨zs,ez⟩:=hi.allInts.items;have pl':=pl.isList;rw[ez]at pl';refine PySem.sum_intListG (I.ok.hd hc) pl' λh' tk t' hk=>?_;have e2:ns=zs.toList.map (·.1):=by
  rw[<-hn,<-show its.toArray.toList=its from rfl,ez,nums_intItems]
 rw[preSum_eq,DL (by simp)];exact⟨.int ns.sum,H,I.kept hk,⟨t',by rw[e2]⟩,q⟩
noncomputable def an6(i j:Int):Prop:=0<j∧j.natAbs.log2<9000
def cb0:OpR X (Co .FloorDiv) (rI an6 λi j=>.int (i / j)):=opI λi j _ _ _ _ _ hc q=>by
 have h1:(0:Int)<j:=hc.1;exact floordiv_int (by lia) (by rw[Int.fdiv_eq_ediv_of_nonneg i (by lia)];exact q) (.inl (PyProof.noPylong_of_log2 hc.2))
noncomputable def c13(K:AO):R2:=λx y H Q=>∃a b xs ys,x=.ref a∧y=.ref b∧SqT K H a xs∧SqT K H b ys∧xs.length+ys.length<=sizeLine ∧
 (xs=[]->Q (.ref b) H)∧(xs≠[]->ys=[]->Q (.ref a) H)∧(xs≠[]->ys≠[]->∀p,H p=AE->Q (.ref p) (upd H p (.tup (xs++ys))))
def ci7:OpR X (Co .Add) (c13 X.K):=by
 intro pins s σ H x y v u Q I rx ry h;obtain⟨a,b,xs,ys,rfl,rfl,ha,hb,hz,q0,q1,q2⟩:=h
 by_cases hx:xs=[]
 ·subst hx;cases rx;cases ry;obtain⟨its,r1,p1,_⟩:=I.tuple ha;obtain⟨its2,r2,p2,_⟩:=I.tuple hb;cases r1;obtain⟨⟨cls,dd,data,sl⟩,ho,hc,n,hd⟩:=id p1;obtain⟨⟨cls2,dd2,data2,sl2⟩,ho2,hc2,n2,hd2⟩:=id p2;simp only at hc hd hc2 hd2;subst hc hd hc2 hd2;exact Hz ⟨_,ho,rfl⟩ ⟨_,ho2,rfl⟩ GZ He PySem.F.slot_tuple_add PySem.F.entry_tuple_add (PySem.F.args_tuple_add_2 _ _)
   (tuple_addW0 a b #[] its2.toArray n n2 dd dd2 sl sl2 (by simp)) ⟨ho,ho2,⟨.ref b,H,I,rfl,q0 rfl⟩⟩
 ·exact ck0 pins s σ H _ _ v u Q I rx ry ⟨a,b,xs,ys,rfl,rfl,ha,hb,hx,hz,q1 hx,q2 hx⟩
end
end L2
namespace Ek
open PySem PySem.Spec PyProof.Rows L2
set_option genInjectivity false
inductive Tg where
 |n (i:Nat)|tup (is:List Nat)
mutual
inductive E where
 |non|bl (b:Bool)|int (i:Int)|str (x:Str)
 |v (i:Nat)
 |tup (es:Es)|lst (es:Es)
 |bin (o:Ec) (a b:E)
 |neg (a:E)
 |cmp (o:Dn) (a b:E)
 |isN (a:E)|notN (a:E)
 |and (a b:E)|or (a b:E)|not (a:E)
 |ite (c a b:E)
 |ix (a b:E)
 |sl (a lo hi:E)
 |slw (a lo hi:E)
 |dsel (ks:List Str) (vs:Es) (k:E)
 |gsel (g:Str) (k:E)|gget (g:Str) (k d:E)
 |len (a:E)|abs (a:E)|toInt (a:E)|sum (a:E)|list (a:E)|tuple (a:E)
 |max (a b:E)
 |call (f:Str) (es:Es)|gf (f:Str)|callv (i:Nat) (es:Es)|callx (c:E) (es:Es)|isT (t:String) (a:E)
 |fld (a:E) (f:Str)|meth (a:E) (m:Str) (es:Es)|make (c:Str) (es:Es)
 |app (a b:E)|ext (a b:E)|popAt (a b:E)|pop (a:E)|index (a b:E)
 |lrev (a:E)
 |gc (g:Str)
 |dnt|dgt (a k:E)|din (ne:Bool) (k a:E)
 |methd (a:E) (m:Str) (es:Es)
 |denu (a:E)|igt (a k:E)
 |comp (Nc:List Str) (fr:List Nat) (k:Nat) (t:Tg) (it:It) (c:E) (e:E)
inductive Es where
 |nil|cons (e:E) (r:Es)
inductive It where
 |seq (e:E)|rng (a:E)|rng2 (a b:E)|enum (e:E)|rev (e:E)|revt (e:E)
end
mutual
inductive S where
 |set (i:Nat) (e:E)
 |put (o i v:E)
 |dput (o i v:E)
 |pre (i:Nat)
 |fldS (o:E) (f:Str) (v:E)
 |ex (e:E)
 |iff (c:E) (a b:Ss)
 |ret (e:E)|retN
 |for (t:Tg) (it:It) (b:Ss)
 |while (c:E) (b:Ss)
 |cont|pass|dead
 |dfn (i np:Nat) (N:List Str) (cp:List Nat) (b:Ss)
inductive Ss where
 |nil|cons (s:S) (r:Ss)
end
noncomputable def Es.len:Es->Nat
 |.nil=>0
 |.cons _ r=>r.len+1
set_option genInjectivity true
inductive D where
 |non|bl (b:Bool)|int (i:Int)|str (x:Str)|tup (ds:List D)|ref (a:AI)|fn (f:Str)|clo (np:Nat) (N:List Str) (b:Ss) (cs:List D)|ktup (ns:List Int)
inductive Ob where
 |lst (ds:List D)|fro (ds:List D)|dct (kvs:List (Key×D))|dtt (kvs:List (Af×D))|ins (c:Str) (fs:List (Str×D))
noncomputable abbrev Sto:=AI->Option Ob
noncomputable abbrev i9:=List (Option D)
noncomputable abbrev DK:=D->Sto->Prop
noncomputable abbrev DT:=i9->Sto->DK->Prop
noncomputable abbrev DB:=i9->Sto->(Bool->Sto->Prop)->Prop
noncomputable abbrev DA:=i9->Sto->(List D->Sto->Prop)->Prop
noncomputable def b0(st:Sto)(a:AI)(o:Ob):Sto:=λb=>if b=a then AA o else st b
def c9{st:Sto}{a:AI}{o:Ob}:b0 st a o a=AA o:=by unfold b0;rw[if_pos rfl]
def B9{st:Sto}{a b:AI}{o:Ob}(h:b≠a):b0 st a o b=st b:=by unfold b0;rw[if_neg h]
noncomputable def rdS(st:Sto)(a:AI)(ds:List D):Prop:=st a=AA (.lst ds)∨st a=AA (.fro ds)
noncomputable def Sub(st st':Sto):Prop:=∀a o,st a=AA o->st' a=AA o
def Sub.refl(st:Sto):Sub st st:=λ_ _ h=>h
mutual
noncomputable def D.py:D->Af
 |.non=>.none|.bl b=>.bool b|.int i=>.int i|.str x=>.str x|.tup ds=>.tuple (D.pys ds)|.ref _=>.none|.fn _=>.none|.clo _ _ _ _=>.none|.ktup _=>.none
noncomputable def D.pys:List D->List Af
 |[]=>[]
 |d::r=>d.py::D.pys r
end
mutual
noncomputable def D.pure:D->Bool
 |.tup ds=>D.pures ds
 |.ref _=>AG
 |.fn _=>AG
 |.clo _ _ _ _=>AG
 |.ktup _=>AG
 |.str x=>EV (.str x)
 |_=>AC
noncomputable def D.pures:List D->Bool
 |[]=>AC
 |d::r=>d.pure&&D.pures r
end
noncomputable def deq(d e:D):Bool:=Aq d.py e.py
noncomputable def l6(d:D):Nat:=d.py.depth
noncomputable abbrev Spec:=List D->Sto->DK->Prop
set_option genInjectivity false
structure Sg where
 F:Str->Bool
 Phi:Str->Spec
 G:Str->List (Str×D)
 C:Str->List Str
 Mk:Str->Spec
 MF:Str->Bool
 PhiC:Nat->List Str->Ss->List D->Spec
 Kc:Str->Option Int
def c7(c m:Str):Str:=⟨c.cps++#[46]++m.cps⟩
noncomputable def A7(C:Str->List Str)(f:Str):Option Int:=match C ⟨#[33]++f.cps⟩with
 |[]=>AE
 |_::l=>AA (l.length:Nat)
noncomputable def j9(f:Str)(d:D):List (Str×D)->List (Str×D)
 |[]=>[(f,d)]
 |(g,e)::r=>if g=f then(g,d)::r else(g,e)::j9 f d r
noncomputable def S7(Z:Sg)(ta:Sto->(List D->Sto->Prop)->Prop)(st:Sto)(Q:DK):D->Prop
 |.fn f=>Z.F f=AC∧ta st λds st1=>Z.Phi f ds st1 Q
 |.clo np N b cs=>ta st λds st1=>Z.PhiC np N b cs ds st1 Q
 |_=>False
noncomputable def L3(env:i9):List Nat->Option (List D)
 |[]=>AA []
 |i::is=>match env[i]?,L3 env is with
  |some (AA d),AA ds=>AA (d::ds)
  |_,_=>AE
noncomputable def O8(i j:Int):Prop:=ap7 i j∨(i.natAbs<2^20000∧j.natAbs<2^20000)
noncomputable def y0(kvs:List (Key×D))(k:Key):Option D:=(kvs.find? λkv=>AB (kv.1=k)).map (·.2)
noncomputable def w8:Ec->D->D->Sto->DK->Prop
 |.Add,.int i,.int j,st,Q=>Q (.int (i+j)) st
 |.Add,.tup xs,.tup ys,st,Q=>xs.length+ys.length<=sizeLine∧Q (.tup (xs++ys)) st
 |.Add,.ref a,.ref b,st,Q=>∃xs ys,st a=AA (.lst xs)∧st b=AA (.lst ys)∧xs.length+ys.length<=sizeLine∧∀p,st p=AE->Q (.ref p) (b0 st p (.lst (xs++ys)))
 |.Sub,.int i,.int j,st,Q=>Q (.int (i-j)) st
 |.Mult,.int i,.int j,st,Q=>O8 i j∧Q (.int (i*j)) st
 |.Mult,.tup xs,.int k,st,Q=>xs≠[]∧1<=k∧k<2^62∧xs.length*k.toNat<=sizeLine∧Q (.tup (AX k.toNat xs).flatten) st
 |.Mod,.int i,.int j,st,Q=>0<j∧Q (.int (i % j)) st
 |.FloorDiv,.int i,.int j,st,Q=>an6 i j∧Q (.int (i / j)) st
 |.Pow,.int i,.int j,st,Q=>ap4 i j∧Q (.int (i^j.toNat)) st
 |_,_,_,_,_=>False
noncomputable def o0:Dn->D->D->Sto->DK->Prop
 |.Eq,x,y,st,Q=>x.pure=AC∧y.pure=AC∧Dv (l6 x) (l6 y)<=150∧Q (.bl (deq x y)) st
 |.NotEq,x,y,st,Q=>x.pure=AC∧y.pure=AC∧Dv (l6 x) (l6 y)<=150∧Q (.bl (!deq x y)) st
 |.Lt,.int i,.int j,st,Q=>Q (.bl (AB (i<j))) st
 |.LtE,.int i,.int j,st,Q=>Q (.bl (AB (i<=j))) st
 |.Gt,.int i,.int j,st,Q=>Q (.bl (AB (j<i))) st
 |.GtE,.int i,.int j,st,Q=>Q (.bl (AB (j<=i))) st
 |.In,x,.tup ys,st,Q=>x.pure=AC∧D.pures ys=AC∧l6 x<=150∧Q (.bl (ys.any λy=>deq y x)) st
 |.NotIn,x,.tup ys,st,Q=>x.pure=AC∧D.pures ys=AC∧l6 x<=150∧Q (.bl (!ys.any λy=>deq y x)) st
 |.In,.int i,.ktup ns,st,Q=>Q (.bl (AB (i∈ns))) st
 |.In,.str w,.ref a,st,Q=>∃kvs,st a=AA (.dct kvs)∧Q (.bl (y0 kvs (.inr w)).isSome) st
 |.NotIn,.str w,.ref a,st,Q=>∃kvs,st a=AA (.dct kvs)∧Q (.bl (!(y0 kvs (.inr w)).isSome)) st
 |.In,.int i,.ref a,st,Q=>∃kvs,st a=AA (.dct kvs)∧Q (.bl (y0 kvs (.inl i)).isSome) st
 |.NotIn,.int i,.ref a,st,Q=>∃kvs,st a=AA (.dct kvs)∧Q (.bl (!(y0 kvs (.inl i)).isSome)) st
 |_,_,_,_,_=>False
noncomputable def ixR:D->D->Sto->DK->Prop
 |.tup ds,.int i,st,Q=>∃d,atI ds i=AA d∧Q d st
 |.ref a,.int i,st,Q=>(∃ds d,rdS st a ds∧atI ds i=AA d∧Q d st)∨∃kvs d,st a=AA (.dct kvs)∧y0 kvs (.inl i)=AA d∧Q d st
 |.ref a,.str w,st,Q=>∃kvs d,st a=AA (.dct kvs)∧y0 kvs (.inr w)=AA d∧Q d st
 |.str w,.int i,st,Q=>∃c,w.length<=sizeLine∧atI w.cps.toList i=AA c∧Q (.str ⟨#[c]⟩) st
 |_,_,_,_=>False
noncomputable def z8(xs:List D)(lo hi:Option Int):List D:=(xs.drop (HT.sIx xs.length 0 lo)).take (HT.sIx xs.length xs.length hi-HT.sIx xs.length 0 lo)
noncomputable def slR:D->Option Int->Option Int->Sto->DK->Prop
 |.tup ds,lo,hi,st,Q=>¬(HT.sIx ds.length 0 lo=0∧HT.sIx ds.length ds.length hi=ds.length)∧Q (.tup (z8 ds lo hi)) st
 |.ref a,lo,hi,st,Q=>∃ds,rdS st a ds∧∀p,st p=AE->Q (.ref p) (b0 st p (.lst (z8 ds lo hi)))
 |_,_,_,_,_=>False
noncomputable def n8:List (Str×D)->Str->Option D
 |[],_=>AE
 |(k,d)::r,x=>if k=x then AA d else n8 r x
noncomputable def P3:D->Sto->DK->Prop
 |.tup ds,st,Q=>Q (.int ds.length) st
 |.ref a,st,Q=>∃ds,rdS st a ds∧Q (.int ds.length) st
 |_,_,_=>False
noncomputable def V9:D->Sto->DK->Prop
 |.bl b,st,Q=>Q (.int (if b then 1 else 0)) st
 |.int i,st,Q=>Q (.int i) st
 |_,_,_=>False
noncomputable def ab7:D->Sto->DK->Prop
 |.tup ds,st,Q=>∀p,st p=AE->Q (.ref p) (b0 st p (.lst ds))
 |.ref a,st,Q=>∃ds,rdS st a ds∧∀p,st p=AE->Q (.ref p) (b0 st p (.lst ds))
 |_,_,_=>False
noncomputable def Q5:D->Sto->DK->Prop
 |.tup ds,st,Q=>Q (.tup ds) st
 |.ref a,st,Q=>∃ds,rdS st a ds∧Q (.tup ds) st
 |_,_,_=>False
noncomputable def ac4:D->Sto->DK->Prop
 |.ref a,st,Q=>∃ns:List Int,rdS st a (ns.map D.int)∧Q (.int ns.sum) st
 |_,_,_=>False
noncomputable def a75:D->Sto->DK->Prop
 |.ref a,st,Q=>∃ds,rdS st a ds∧Q (.bl AC) st
 |_,_,_=>False
noncomputable def am5:D->D->Sto->DK->Prop
 |.ref a,.int i,st,Q=>(-(2^62)<=i∧i<2^62)∧∃ds k d,st a=AA (.lst ds)∧ixN ds.length i=AA k∧ds[k]?=AA d∧Q d (b0 st a (.lst (ds.eraseIdx k)))
 |_,_,_,_=>False
noncomputable def X3:D->Sto->DK->Prop
 |.ref a,st,Q=>∃ds d,st a=AA (.lst (ds++[d]))∧Q d (b0 st a (.lst ds))
 |_,_,_=>False
noncomputable def X6:D->Sto->DK->Prop
 |.ref a,st,Q=>∃ds,st a=AA (.lst ds)∧Q .non (b0 st a (.lst ds.reverse))
 |_,_,_=>False
noncomputable def B2(kvs:List (Af×D))(k:Af):Option D:=(kvs.find? λkv=>AB (kv.1=k)).map (·.2)
noncomputable def U1(kvs:List (Af×D))(k:Af)(v:D):List (Af×D):=
 if(kvs.any λkv=>AB (kv.1=k))=AC then kvs.map (λkv=>if kv.1=k then(kv.1,v)else kv)else kvs++[(k,v)]
noncomputable def D.key(d:D):Prop:=NK.lit d.py=AC∧d.py.depth<=7
noncomputable def ad3:D->Option Int->Option Int->Sto->DK->Prop
 |.tup ds,lo,hi,st,Q=>Q (.tup (z8 ds lo hi)) st
 |_,_,_,_,_=>False
noncomputable def ap8:D->Sto->Prop
 |.ref a,st=>∃kvs,st a=AA (.dtt kvs)
 |_,_=>False
noncomputable def aq6:D->D->Sto->DK->Prop
 |.ref a,.tup ks,st,Q=>∃kvs,st a=AA (.dtt kvs)∧D.key (.tup ks)∧Q ((B2 kvs (D.tup ks).py).getD .non) st
 |_,_,_,_=>False
noncomputable def O9(ne:Bool):D->D->Sto->DK->Prop
 |.non,.ref a,st,Q=>st a=AA (.dtt [])∧Q (.bl ne) st
 |.tup ks,.ref a,st,Q=>∃kvs,st a=AA (.dtt kvs)∧D.key (.tup ks)∧Q (.bl (ne != (B2 kvs (D.tup ks).py).isSome)) st
 |_,_,_,_=>False
noncomputable def ao4:D->D->D->Sto->(Sto->Prop)->Prop
 |.ref a,.tup ks,d,st,K=>∃kvs,st a=AA (.dtt kvs)∧D.key (.tup ks)∧kvs.length<sizeLine∧K (b0 st a (.dtt (U1 kvs (D.tup ks).py d)))
 |_,_,_,_,_=>False
noncomputable def o7{α:Type}:Nat->List α->List (Key×α)
 |_,[]=>[]
 |i,x::r=>(.inl (i:Int),x)::o7 (i+1) r
noncomputable def aq0:D->Sto->Prop
 |.ref a,st=>∃kvs,st a=AA (.dct kvs)
 |_,_=>False
noncomputable def aq3:D->D->Sto->DK->Prop
 |.ref a,.int i,st,Q=>∃kvs,st a=AA (.dct kvs)∧Q ((y0 kvs (.inl i)).getD .non) st
 |_,_,_,_=>False
noncomputable def T8:D->D->Sto->DK->Prop
 |.ref a,d,st,Q=>∃ds,st a=AA (.lst ds)∧ds.length<sizeLine∧Q .non (b0 st a (.lst (ds++[d])))
 |_,_,_,_=>False
noncomputable def T6:D->D->Sto->DK->Prop
 |.ref a,.ref b,st,Q=>∃ds es,st a=AA (.lst ds)∧st b=AA (.lst es)∧ds.length+es.length<=sizeLine∧Q .non (b0 st a (.lst (ds++es)))
 |.ref a,.tup es,st,Q=>∃ds,st a=AA (.lst ds)∧ds.length+es.length<=sizeLine∧Q .non (b0 st a (.lst (ds++es)))
 |_,_,_,_=>False
noncomputable def N9:D->D->Sto->DK->Prop
 |.ref a,x,st,Q=>∃ds,rdS st a ds∧x.pure=AC∧D.pures ds=AC∧l6 x<=150∧∃(j:Nat)(d:D),ds[j]?=AA d∧deq d x=AC∧(∀(i:Nat)e,i<j->ds[i]?=AA e->deq e x=AG)∧Q (.int (j:Int)) st
 |.tup ds,x,st,Q=>x.pure=AC∧D.pures ds=AC∧l6 x<=150∧∃(j:Nat)(d:D),ds[j]?=AA d∧deq d x=AC∧(∀(i:Nat)e,i<j->ds[i]?=AA e->deq e x=AG)∧Q (.int (j:Int)) st
 |_,_,_,_=>False
noncomputable def B7:D->Sto->Prop
 |.ref a,st=>∃ds,rdS st a ds
 |_,_=>False
noncomputable def X4:D->Sto->Prop
 |.tup _,_=>True
 |.ref a,st=>∃ds,rdS st a ds
 |_,_=>False
noncomputable def tyD:D->Sto->Option String
 |.non,_=>AA "NoneType"|.bl _,_=>AA "bool"|.int _,_=>AA "int"|.str _,_=>AA "str"|.tup _,_=>AA "tuple"
 |_,_=>AE
noncomputable def ab6(t:String)(d:D)(st:Sto)(Q:DK):Prop:=(∃ty,tyD d st=AA ty∧Q (.bl (ty==t||(ty=="bool"&&t=="int"))) st)∨∃a ds,d=.ref a∧rdS st a ds∧Q (.bl (t=="list")) st
noncomputable def O0:i9->List Nat->List D->i9
 |env,i::is,d::ds=>O0 (env.set i (AA d)) is ds
 |env,_,_=>env
noncomputable def J5:Tg->D->i9->(i9->Prop)->Prop
 |.n i,d,env,k=>k (env.set i (AA d))
 |.tup is,d,env,k=>∃ds,d=.tup ds∧ds.length=is.length∧k (O0 env is ds)
noncomputable def t0(lo:Int)(n:Nat):List D:=(Cs n).map λi=>.int (lo+(i:Nat))
noncomputable def o6:Nat->List D->List D
 |_,[]=>[]
 |i,d::ds=>.tup [.int i,d]::o6 (i+1) ds
noncomputable def u6(chk:Sto->Prop)(t:Tg)(tc:DB)(te:DT)(Q:List D->Sto->Prop):List D->List D->i9->Sto->Prop
 |[],acc,_,st=>chk st∧Q acc st
 |d::ds,acc,env,st=>chk st∧J5 t d env λenv'=>tc env' st λb st1=>
   if b=AC then te env' st1 λv st2=>u6 chk t tc te Q ds (acc++[v]) env' st2
   else u6 chk t tc te Q ds acc env' st1
noncomputable def N7(fr:List Nat)(k:Nat)(env:i9):i9:=(fr.map λj=>(env[j]?).join)++AX k AE
noncomputable def E.isNon:E->Bool
 |.non=>AC
 |_=>AG
noncomputable abbrev ItK:=List D->(Sto->Prop)->Sto->Prop
mutual
noncomputable def wpE(Z:Sg):E->DT
 |.non=>λ_ st Q=>Q .non st
 |.bl b=>λ_ st Q=>Q (.bl b) st
 |.int i=>λ_ st Q=>Q (.int i) st
 |.str x=>λ_ st Q=>Q (.str x) st
 |.v i=>λenv st Q=>∃d,env[i]?=AA (AA d)∧Q d st
 |.tup es=>λenv st Q=>o8 Z es env st λds st1=>Q (.tup ds) st1
 |.lst es=>λenv st Q=>o8 Z es env st λds st1=>∀p,st1 p=AE->Q (.ref p) (b0 st1 p (.lst ds))
 |.bin o a b=>λenv st Q=>wpE Z a env st λx st1=>wpE Z b env st1 λy st2=>w8 o x y st2 Q
 |.neg a=>λenv st Q=>wpE Z a env st λx st1=>∃i,x=.int i∧Q (.int (-i)) st1
 |.cmp o a b=>λenv st Q=>wpE Z a env st λx st1=>wpE Z b env st1 λy st2=>o0 o x y st2 Q
 |.isN a=>λenv st Q=>wpE Z a env st λx st1=>(x=.non∧Q (.bl AC) st1)∨(x≠.non∧Q (.bl AG) st1)
 |.notN a=>λenv st Q=>wpE Z a env st λx st1=>(x=.non∧Q (.bl AG) st1)∨(x≠.non∧Q (.bl AC) st1)
 |.and a b=>λenv st Q=>wpE Z a env st λx st1=>∃c,x=.bl c∧(if c=AC then wpE Z b env st1 Q else Q (.bl AG) st1)
 |.or a b=>λenv st Q=>wpE Z a env st λx st1=>∃c,x=.bl c∧(if c=AC then Q (.bl AC) st1 else wpE Z b env st1 Q)
 |.not a=>λenv st Q=>wpE Z a env st λx st1=>∃c,x=.bl c∧Q (.bl (!c)) st1
 |.ite c a b=>λenv st Q=>wpE Z c env st λx st1=>∃k,x=.bl k∧(if k=AC then wpE Z a env st1 Q else wpE Z b env st1 Q)
 |.ix a b=>λenv st Q=>wpE Z a env st λx st1=>wpE Z b env st1 λy st2=>ixR x y st2 Q
 |.sl a lo hi=>λenv st Q=>wpE Z a env st λx st1=>
   (if lo.isNon=AC then λk=>k AE st1 else λ(k:Option Int->Sto->Prop)=>wpE Z lo env st1 λd st'=>∃i,d=.int i∧k (AA i) st') λl st2=>
   (if hi.isNon=AC then λk=>k AE st2 else λ(k:Option Int->Sto->Prop)=>wpE Z hi env st2 λd st'=>∃i,d=.int i∧k (AA i) st') λh st3=>slR x l h st3 Q
 |.slw a lo hi=>λenv st Q=>wpE Z a env st λx st1=>
   (if lo.isNon=AC then λk=>k AE st1 else λ(k:Option Int->Sto->Prop)=>wpE Z lo env st1 λd st'=>∃i,d=.int i∧k (AA i) st') λl st2=>
   (if hi.isNon=AC then λk=>k AE st2 else λ(k:Option Int->Sto->Prop)=>wpE Z hi env st2 λd st'=>∃i,d=.int i∧k (AA i) st') λh st3=>ad3 x l h st3 Q
 |.dsel ks vs k=>λenv st Q=>o8 Z vs env st λds st1=>wpE Z k env st1 λx st2=>∃w d,x=.str w∧n8 (ks.zip ds) w=AA d∧Q d st2
 |.gget g k d=>λenv st Q=>Z.G g≠[]∧wpE Z k env st λx st1=>wpE Z d env st1 λy st2=>∃w,x=.str w∧Q ((n8 (Z.G g) w).getD y) st2
 |.gsel g k=>λenv st Q=>Z.G g≠[]∧wpE Z k env st λx st1=>∃w d,x=.str w∧n8 (Z.G g) w=AA d∧Q d st1
 |.len a=>λenv st Q=>wpE Z a env st λx st1=>P3 x st1 Q
 |.abs a=>λenv st Q=>wpE Z a env st λx st1=>∃i,x=.int i∧Q (.int (if i<0 then -i else i)) st1
 |.toInt a=>λenv st Q=>wpE Z a env st λx st1=>V9 x st1 Q
 |.sum a=>λenv st Q=>wpE Z a env st λx st1=>ac4 x st1 Q
 |.list a=>λenv st Q=>wpE Z a env st λx st1=>ab7 x st1 Q
 |.tuple a=>λenv st Q=>wpE Z a env st λx st1=>Q5 x st1 Q
 |.max a b=>λenv st Q=>wpE Z a env st λx st1=>wpE Z b env st1 λy st2=>∃i j,x=.int i∧y=.int j∧Q (.int (if j>i then j else i)) st2
 |.call f es=>λenv st Q=>Z.F f=AC∧o8 Z es env st λds st1=>Z.Phi f ds st1 Q
 |.gf f=>λ_ st Q=>Z.F f=AC∧Q (.fn f) st
 |.callx c es=>λenv st Q=>wpE Z c env st λx st1=>∃f,x=.fn f∧Z.F f=AC∧o8 Z es env st1 λds st2=>Z.Phi f ds st2 Q
 |.callv i es=>λenv st Q=>∃x,env[i]?=AA (AA x)∧S7 Z (o8 Z es env) st Q x
 |.gc g=>λ_ st Q=>∃i,Z.Kc g=AA i∧Q (.int i) st
 |.isT t a=>λenv st Q=>wpE Z a env st λx st1=>ab6 t x st1 Q
 |.fld a f=>λenv st Q=>wpE Z a env st λx st1=>∃p c fs d,x=.ref p∧st1 p=AA (.ins c fs)∧f∈Z.C c∧fs.lookup f=AA d∧Q d st1
 |.meth a m es=>λenv st Q=>wpE Z a env st λx st1=>∃p c fs,x=.ref p∧st1 p=AA (.ins c fs)∧fs.lookup m=AE∧Z.F (c7 c m)=AC∧o8 Z es env st1 λds st2=>Z.Phi (c7 c m) (.ref p::ds) st2 Q
 |.methd a m es=>λenv st Q=>wpE Z a env st λx st1=>∃p c fs i,x=.ref p∧st1 p=AA (.ins c fs)∧fs.lookup m=AE∧Z.F (c7 c m)=AC∧A7 Z.C (c7 c m)=AA i∧o8 Z es env st1 λds st2=>Z.Phi (c7 c m) (.ref p::(ds++[.int i])) st2 Q
 |.make c es=>λenv st Q=>Z.MF (c7 c "__init__")=AC∧o8 Z es env st λds st1=>∀p,st1 p=AE->Z.Mk (c7 c "__init__") (.ref p::ds) (b0 st1 p (.ins c [])) λv st2=>v=.non∧Q (.ref p) st2
 |.app a b=>λenv st Q=>wpE Z a env st λx st1=>B7 x st1∧wpE Z b env st1 λy st2=>T8 x y st2 Q
 |.ext a b=>λenv st Q=>wpE Z a env st λx st1=>B7 x st1∧wpE Z b env st1 λy st2=>T6 x y st2 Q
 |.popAt a b=>λenv st Q=>wpE Z a env st λx st1=>B7 x st1∧wpE Z b env st1 λy st2=>am5 x y st2 Q
 |.pop a=>λenv st Q=>wpE Z a env st λx st1=>X3 x st1 Q
 |.denu a=>λenv st Q=>wpE Z a env st λx st1=>∃ds,x=.tup ds∧ds.length<=1000000∧∀p,st1 p=AE->Q (.ref p) (b0 st1 p (.dct (o7 0 ds)))
 |.igt a k=>λenv st Q=>wpE Z a env st λx st1=>aq0 x st1∧wpE Z k env st1 λy st2=>aq3 x y st2 Q
 |.dnt=>λenv st Q=>Z.C "!kt"≠[]∧∀p,st p=AE->Q (.ref p) (b0 st p (.dtt []))
 |.dgt a k=>λenv st Q=>wpE Z a env st λx st1=>ap8 x st1∧wpE Z k env st1 λy st2=>aq6 x y st2 Q
 |.din ne k a=>λenv st Q=>wpE Z k env st λy st1=>wpE Z a env st1 λx st2=>O9 ne y x st2 Q
 |.lrev a=>λenv st Q=>wpE Z a env st λx st1=>X6 x st1 Q
 |.index a b=>λenv st Q=>wpE Z a env st λx st1=>X4 x st1∧wpE Z b env st1 λy st2=>N9 x y st2 Q
 |.comp _ fr k t it c e=>λenv st Q=>z0 Z it env st λitems chk st1=>items.length<=1000000 ∧
   u6 chk t (if c.isNon=AC then λ_ st Q=>Q AC st else λenv st Q=>wpE Z c env st λd st'=>∃b,d=.bl b∧Q b st') (λenv st Q=>wpE Z e env st Q) (λacc st'=>∀p,st' p=AE->Q (.ref p) (b0 st' p (.lst acc))) items [] (N7 fr k env) st1
noncomputable def o8(Z:Sg):Es->DA
 |.nil=>λ_ st Q=>Q [] st
 |.cons e r=>λenv st Q=>wpE Z e env st λd st1=>o8 Z r env st1 λds st2=>Q (d::ds) st2
noncomputable def z0(Z:Sg):It->i9->Sto->ItK->Prop
 |.seq e=>λenv st k=>wpE Z e env st λd st1=>(∃ds,d=.tup ds∧k ds (λ_=>True) st1)∨(∃a ds,d=.ref a∧rdS st1 a ds∧k ds (λst'=>rdS st' a ds) st1)
 |.rng a=>λenv st k=>wpE Z a env st λd st1=>∃j:Int,d=.int j∧(-(2^62)<=j∧j<2^62)∧k (t0 0 j.toNat) (λ_=>True) st1
 |.rng2 a b=>λenv st k=>wpE Z a env st λd st1=>wpE Z b env st1 λe st2=>∃i j:Int,d=.int i∧e=.int j∧(-(2^62)<=i∧i<2^62∧-(2^62)<=j∧j<2^62)∧k (t0 i (j-i).toNat) (λ_=>True) st2
 |.enum e=>λenv st k=>wpE Z e env st λd st1=>(∃ds,d=.tup ds∧k (o6 0 ds) (λ_=>True) st1)∨(∃a ds,d=.ref a∧rdS st1 a ds∧k (o6 0 ds) (λst'=>rdS st' a ds) st1)
 |.revt e=>λenv st k=>wpE Z e env st λd st1=>∃ds,d=.tup ds∧k ds.reverse (λ_=>True) st1
 |.rev e=>λenv st k=>wpE Z e env st λd st1=>∃a ds,d=.ref a∧rdS st1 a ds∧k ds.reverse (λst'=>rdS st' a ds) st1
end
noncomputable def wpT(Z:Sg)(e:E):DB:=λenv st Q=>wpE Z e env st λd st'=>∃b,d=.bl b∧Q b st'
structure DEnds where
 nx:i9->Sto->Prop
 rt:DK
 bk:i9->Sto->Prop:=λ_ _=>False
 ct:i9->Sto->Prop:=λ_ _=>False
noncomputable abbrev DS:=DEnds->i9->Sto->Prop
noncomputable def p7(chk:Sto->Prop)(t:Tg)(tb:DS)(F:DEnds):List D->i9->Sto->Prop
 |[],env,st=>chk st∧F.nx env st
 |d::ds,env,st=>chk st∧J5 t d env λenv'=>tb {F with nx:=p7 chk t tb F ds,ct:=p7 chk t tb F ds,bk:=F.nx} env' st
noncomputable def v5(tc:DB)(tb:DS)(F:DEnds):Nat->i9->Sto->Prop
 |0,_,_=>False
 |n+1,env,st=>tc env st λb st1=>if b=AC then tb {F with nx:=v5 tc tb F n,ct:=v5 tc tb F n,bk:=F.nx} env st1 else F.nx env st1
mutual
noncomputable def wpS(Z:Sg):S->DS
 |.set i e=>λF env st=>wpE Z e env st λd st1=>F.nx (env.set i (AA d)) st1
 |.pre i=>λF env st=>∀p,st p=AE->F.nx (env.set i (AA (.ref p))) (b0 st p (.dct []))
 |.dput o i v=>λF env st=>wpE Z v env st λd st1=>wpE Z o env st1 λx st2=>wpE Z i env st2 λy st3=>ao4 x y d st3 λst4=>F.nx env st4
 |.put o i v=>λF env st=>wpE Z v env st λd st1=>wpE Z o env st1 λx st2=>wpE Z i env st2 λy st3=>
   ∃a j k ds,x=.ref a∧y=.int j∧st3 a=AA (.lst ds)∧ixN ds.length j=AA k∧F.nx env (b0 st3 a (.lst (ds.set k d)))
 |.fldS o f v=>λF env st=>wpE Z v env st λd st1=>wpE Z o env st1 λx st2=>∃p c fs,x=.ref p∧st2 p=AA (.ins c fs)∧f∈Z.C c∧fs.length<1000∧F.nx env (b0 st2 p (.ins c (j9 f d fs)))
 |.ex e=>λF env st=>wpE Z e env st λ_ st1=>F.nx env st1
 |.iff c a b=>λF env st=>wpT Z c env st λk st1=>if k=AC then f8 Z a F env st1 else f8 Z b F env st1
 |.ret e=>λF env st=>wpE Z e env st F.rt
 |.retN=>λF _ st=>F.rt .non st
 |.for t it b=>λF env st=>z0 Z it env st λitems chk st1=>p7 chk t (f8 Z b) F items env st1
 |.while c b=>λF env st=>∃n,v5 (wpT Z c) (f8 Z b) F n env st
 |.cont=>λF env st=>F.ct env st
 |.dead=>λ_ _ _=>False
 |.pass=>λF env st=>F.nx env st
 |.dfn i np N cp b=>λF env st=>∃cs,L3 env cp=AA cs∧F.nx (env.set i (AA (.clo np N b cs))) st
noncomputable def f8(Z:Sg):Ss->DS
 |.nil=>λF env st=>F.nx env st
 |.cons s r=>λF env st=>wpS Z s {F with nx:=f8 Z r F} env st
end
structure Def where
 np:Nat
 N:List Str
 body:Ss
noncomputable abbrev i8:=Str->Option Def
noncomputable def aa7(f:Def)(ds:List D):i9:=ds.map AA++AX (f.N.length-ds.length) AE
structure Gs where
 tab:Str->List (Str×D)
 cls:Str->List Str
 cst:Str->Option Int
set_option genInjectivity true
noncomputable def bt8(P:i8)(G:Gs)(lo lo2:Str->Spec)(po:Bool)(lc:Nat->List Str->Ss->List D->Spec)(f:Str):Spec:=λds st Q=>∃fd,P f=AA fd∧ds.length=fd.np∧f8 ⟨λf=>(P f).isSome,lo,G.tab,G.cls,lo2,λf=>po&&(P f).isSome,lc,G.cst⟩ fd.body
   {nx:=λ_ st'=>∃s2,Sub s2 st'∧Q .non s2,rt:=λd st'=>∃s2,Sub s2 st'∧Q d s2} (aa7 fd ds) st
noncomputable def L9(N:List Str)(ds cs:List D):i9:=(ds++cs).map AA++AX (N.length-(ds++cs).length) AE
noncomputable def br5(P:i8)(G:Gs)(lo lo2:Str->Spec)(po:Bool)(lc:Nat->List Str->Ss->List D->Spec)(np:Nat)(N:List Str)(b:Ss)(cs:List D):Spec:=λds st Q=>ds.length=np∧f8 ⟨λf=>(P f).isSome,lo,G.tab,G.cls,lo2,λf=>po&&(P f).isSome,lc,G.cst⟩ b
   {nx:=λ_ st'=>∃s2,Sub s2 st'∧Q .non s2,rt:=λd st'=>∃s2,Sub s2 st'∧Q d s2} (L9 N ds cs) st
noncomputable def u3(P:i8)(G:Gs):Nat->(Str->Spec)×(Str->Spec)×Bool×(Nat->List Str->Ss->List D->Spec)
 |0=>(λ_ _ _ _=>False,λ_ _ _ _=>False,AG,λ_ _ _ _ _ _ _=>False)
 |n+1=>(bt8 P G (u3 P G n).1 (u3 P G n).2.1 (u3 P G n).2.2.1 (u3 P G n).2.2.2,(u3 P G n).1,AC,br5 P G (u3 P G n).1 (u3 P G n).2.1 (u3 P G n).2.2.1 (u3 P G n).2.2.2)
noncomputable def sem(P:i8)(G:Gs)(n:Nat):Str->Spec:=(u3 P G n).1
noncomputable def J9(P:i8)(G:Gs)(n:Nat):Nat->List Str->Ss->List D->Spec:=(u3 P G n).2.2.2
def b98{P:i8}{G:Gs}{n:Nat}:sem P G (n+1)=bt8 P G (sem P G n) (u3 P G n).2.1 (u3 P G n).2.2.1 (J9 P G n):=rfl
def b53{P:i8}{G:Gs}{n:Nat}:J9 P G (n+1)=br5 P G (sem P G n) (u3 P G n).2.1 (u3 P G n).2.2.1 (J9 P G n):=rfl
end Ek
namespace Ek
open PySem PySem.Spec PyProof.Rows L2
class Tbs where
 ps:List AI
 mt:Ss->BH->List Str->DM->Prop
 kt:Bool
variable{H:Hp}{a p:AI}{xs vs:List V}{v:V}{ds:List D}{o:HO}{σ:L2.St}{st:Sto}{kvs:List (Af×D)}{ob:Ob}{X:Cx}{x:AS}{Qd:DK}{Q:VK}
structure FnScC(N P:List Str)(sc:BH):Prop where
 kind:sc.kind=.function
 co:sc.isCoroutine=AG
 gen:sc.isGenerator=AG
 nd:N.Nodup
 pre:N.take P.length=P
 par:∀x∈P,sc.names.lookup x=AA .local
 nocell:∀y∈sc.names,y.2≠.cell
 fre:∀y∈sc.names,y.2=.free->sc.names.lookup y.1=AA .free
noncomputable def M5(H:Hp)(cv:AF):Prop:=∃c o u vs q t,cv=.ref c∧H c=AA (.frz o u)∧(∀vs,u≠.lst vs)∧o.data=.fields vs∧vs[1]?=AA (.str q t)
variable [Tbs]
structure CloF(fd:Ba)(np:Nat)(N ps:List Str)(b:Ss):Prop where
 sc:FnScC N ps fd.scope
 np:ps.length=np
 mt:Tbs.mt b fd.scope N fd.body
 bind:∀us:List AF,us.length=ps.length->BX fd ⟨us,[]⟩=pure (ps.zip us)
 gl:fd.globals=AN
 bl:fd.builtins=Ck
 has:∀x,(x,As)∈fd.scope.names->∃c,fd.closure.lookup x=AA c
 fre:∀x c,fd.closure.lookup x=AA c->(x,As)∈fd.scope.names
 inj:∀x y c,fd.closure.lookup x=AA c->fd.closure.lookup y=AA c->x=y
structure CloR(H:Hp)(f:AI)(fd:Ba)(np:Nat)(N:List Str)(us:List V):Prop where
 ex:∃o u,H f=AA (.frz o u)∧(∀vs,u≠.lst vs)∧o.data=.func fd
 cd:M5 H fd.code
 cl:∀x c,fd.closure.lookup x=AA c->∃o' u' w,H c=AA (.frz o' u')∧(∀vs,u'≠.lst vs)∧o'.data=.cell (AA w)
 at':∀(i:Nat)v,us[i]?=AA v->∃x c o' u' w,N[np+i]?=AA x∧fd.closure.lookup x=AA c∧H c=AA (.frz o' u')∧(∀vs,u'≠.lst vs)∧o'.data=.cell (AA w)∧f9 v w
noncomputable def W4(H:Hp)(f:AI)(np:Nat)(N:List Str)(b:Ss)(us:List V):Prop:=∃fd ps,CloF fd np N ps b∧CloR H f fd np N us
noncomputable def SqX(K:AO)(H:Hp)(a:AI)(xs:List V):Prop:=H a=AA (.tup xs)∨(Tbs.kt=AC∧SqT K H a xs)
def SqX.sqt{K:AO}(h:SqX K H a xs):SqT K H a xs:=h.elim (λh=>.inl (.inl h)) λh=>h.2
def SqX.of{K:AO}(h:H a=AA (.tup xs)):SqX K H a xs:=.inl h
def SqX.trk{K:AO}(hk:Tbs.kt=AG)(h:SqX K H a xs):H a=AA (.tup xs):=h.elim (λh=>h) λh=>by rw[hk]at h;exact absurd h.1 (by decide)
inductive IsD(K:AO)(H:Hp):D->V->Prop where
 |non:IsD K H .non .non
 |bl (b:Bool):IsD K H (.bl b) (.bl b)
 |int (i:Int):IsD K H (.int i) (.int i)
 |str (x:Str):IsD K H (.str x) (.str x)
 |ref (a:AI):IsD K H (.ref a) (.ref a)
 |fn {f:Str} {a:AI}:Aw K AN f=AA (AA (.ref a))->IsD K H (.fn f) (.ref a)
 |clo {f:AI} {np:Nat} {N:List Str} {b:Ss} {ds:List D} {us:List V}:W4 H f np N b us->ds.length=us.length->(∀(i:Nat)d v,ds[i]?=AA d->us[i]?=AA v->IsD K H d v)->IsD K H (.clo np N b ds) (.ref f)
 |tup {a:AI} {ds:List D} {vs:List V}:SqX K H a vs->ds.length=vs.length->(∀(i:Nat)d v,ds[i]?=AA d->vs[i]?=AA v->IsD K H d v)->IsD K H (.tup ds) (.ref a)
 |ktup {a:AI} {ns:List Int}:SqT K (λ_=>AE) a (ns.map V.int)->IsD K H (.ktup ns) (.ref a)
structure IsDs(K:AO)(H:Hp)(ds:List D)(vs:List V):Prop where
 len:ds.length=vs.length
 at':∀(i:Nat)d v,ds[i]?=AA d->vs[i]?=AA v->IsD K H d v
section
variable {K:AO} {H' H2:Hp} {d:D} {es:List D} {ws:List V}
def IsD.mk(h:SqX K H a vs)(r:IsDs K H ds vs):IsD K H (.tup ds) (.ref a):=.tup h r.len r.at'
def IsD.tup_invX(h:IsD K H (.tup ds) v):∃a vs,v=.ref a∧SqX K H a vs∧IsDs K H ds vs:=by
 cases h with
 |tup a b c=>exact⟨_,_,rfl,a,⟨b,c⟩⟩
def IsD.tup_inv(h:IsD K H (.tup ds) v):∃a vs,v=.ref a∧SqT K H a vs∧IsDs K H ds vs:=let⟨a,vs,e,q,r⟩:=h.tup_invX;⟨a,vs,e,q.sqt,r⟩
def IsDs.nil:IsDs K H [] []:=⟨rfl,λi d v h=>by simp at h⟩
def IsDs.cons(h:IsD K H d v)(r:IsDs K H ds vs):IsDs K H (d::ds) (v::vs):=⟨by simp[r.len],λi e w h1 h2=>by
 cases i with
 |zero=>simp at h1 h2;subst h1 h2;exact h
 |succ i=>exact r.at' i e w (by simpa using h1) (by simpa using h2)⟩
def IsDs.get(r:IsDs K H ds vs){i:Nat}{d:D}(h:ds[i]?=AA d):∃v,vs[i]?=AA v∧IsD K H d v:=by
 have hi:i<ds.length:=(AR.mp h).1;rw[r.len]at hi;exact⟨vs[i],AL hi,r.at' i d _ h (AL hi)⟩
def IsDs.get'(r:IsDs K H ds vs){i:Nat}(h:vs[i]?=AA v):∃d,ds[i]?=AA d∧IsD K H d v:=by
 have hi:i<vs.length:=(AR.mp h).1;rw[<-r.len]at hi;exact⟨ds[i],AL hi,r.at' i _ v (AL hi) h⟩
def IsDs.inv_cons{d:D}(r:IsDs K H (d::ds) vs):∃v ws,vs=v::ws∧IsD K H d v∧IsDs K H ds ws:=by
 cases vs with
 |nil=>have:=r.len;simp at this
 |cons v ws=>exact⟨v,ws,rfl,r.at' 0 d v rfl rfl,⟨by have:=r.len;simpa using this,λi e w h1 h2=>r.at' (i+1) e w (by simpa using h1) (by simpa using h2)⟩⟩
def IsDs.inv_nil(r:IsDs K H [] vs):vs=[]:=by
 cases vs with
 |nil=>rfl
 |cons v ws=>have:=r.len;simp at this
def IsDs.append(r:IsDs K H ds vs)(q:IsDs K H es ws):IsDs K H (ds++es) (vs++ws):=⟨by simp[r.len,q.len],λi d v h1 h2=>by
 by_cases hi:i<ds.length
 ·rw[Ad hi]at h1;rw[Ad (by rw[<-r.len];exact hi)]at h2;exact r.at' i d v h1 h2
 ·rw[Aj (by lia)]at h1;rw[Aj (by rw[<-r.len];lia),<-r.len]at h2;exact q.at' _ d v h1 h2⟩
theorem IsDs.drop(r:IsDs K H ds vs)(n:Nat):IsDs K H (ds.drop n) (vs.drop n):=⟨by simp[r.len],λi d v h1 h2=>by
 rw[List.getElem?_drop]at h1 h2;exact r.at' _ d v h1 h2⟩
theorem IsDs.take(r:IsDs K H ds vs)(n:Nat):IsDs K H (ds.take n) (vs.take n):=⟨by simp[r.len],λi d v h1 h2=>by
 rw[List.getElem?_take]at h1 h2
 split at h1
 ·rename_i hi;rw[if_pos hi]at h2;exact r.at' _ d v h1 h2
 ·cases h1⟩
theorem IsDs.set(r:IsDs K H ds vs)(h:IsD K H d v)(n:Nat):IsDs K H (ds.set n d) (vs.set n v):=⟨by simp[r.len],λi e w h1 h2=>by
 rw[FW]at h1 h2
 by_cases hi:n=i
 ·rw[if_pos hi]at h1 h2
  split at h1
  ·rename_i hl;rw[<-r.len,if_pos hl]at h2;cases h1;cases h2;exact h
  ·cases h1
 ·rw[if_neg hi]at h1 h2;exact r.at' i e w h1 h2⟩
theorem IsDs.erase:∀{ds:List D}{vs:List V}(r:IsDs K H ds vs)(n:Nat),IsDs K H (ds.eraseIdx n) (vs.eraseIdx n)
 |[],vs,r,n=>by rw[r.inv_nil];simpa using IsDs.nil
 |d::ds,vs,r,n=>by
  obtain⟨v,ws,rfl,h1,h2⟩:=r.inv_cons;cases n with
  |zero=>simpa using h2
  |succ n=>simpa using IsDs.cons h1 (IsDs.erase h2 n)
theorem IsDs.rev:∀{ds:List D}{vs:List V}(r:IsDs K H ds vs),IsDs K H ds.reverse vs.reverse
 |[],vs,r=>by rw[r.inv_nil];exact IsDs.nil
 |d::ds,vs,r=>by
  obtain⟨v,ws,rfl,h1,h2⟩:=r.inv_cons;rw[DJ,DJ];exact(IsDs.rev h2).append (IsDs.cons h1 IsDs.nil)
theorem IsDs.ints:∀{ns:List Int}{vs:List V},IsDs K H (ns.map D.int) vs->vs=ns.map V.int
 |[],vs,r=>by rw[Cq]at r;exact r.inv_nil
 |n::ns,vs,r=>by
  rw[Aa]at r;obtain⟨v,ws,rfl,h1,h2⟩:=r.inv_cons;cases h1;rw[IsDs.ints h2];rfl
noncomputable def TK(K:AO)(H H':Hp):Prop:=((∀a xs,SqT K H a xs->SqT K H' a xs)∧∀a xs,H a=AA (.tup xs)->H' a=AA (.tup xs))∧∀a o u,H a=AA (.frz o u)->(∀vs,u≠.lst vs)->H' a=AA (.frz o u)
def SqX.keep(h:SqX K H a xs)(k:TK K H H'):SqX K H' a xs:=h.elim (λh=>.inl (k.1.2 _ _ h)) λh=>.inr ⟨h.1,k.1.1 _ _ h.2⟩
def TK.refl:TK K H H:=⟨⟨λ_ _ h=>h,λ_ _ h=>h⟩,λ_ _ _ h _=>h⟩
def TK.trans(a:TK K H H')(b:TK K H' H2):TK K H H2:=⟨⟨λc xs h=>b.1.1 c xs (a.1.1 c xs h),λc xs h=>b.1.2 c xs (a.1.2 c xs h)⟩,λc o u h n=>b.2 c o u (a.2 c o u h n) n⟩
def TK.upd'(h:∀xs,H p≠AA (.tup xs))(h2:∀o u,H p≠AA (.frz o u)):TK K H (upd H p o):=⟨⟨λa xs q=>by
 rcases q with(q|⟨o',q⟩)|q
 ·exact .inl (.inl (by have ne:a≠p:=(λz=>h xs (by rw[<-z];exact q));rw[i7 ne];exact q))
 ·exact .inl (.inr ⟨o',by have ne:a≠p:=(λz=>h2 _ _ (by rw[<-z];exact q));rw[i7 ne];exact q⟩)
 ·exact .inr q,λa xs q=>by have ne:a≠p:=(λz=>h xs (by rw[<-z];exact q));rw[i7 ne];exact q⟩,λa o' u q n=>by have ne:a≠p:=(λz=>h2 _ _ (by rw[<-z];exact q));rw[i7 ne];exact q⟩
def TK.new(h:H p=AE):TK K H (upd H p o):=TK.upd' (by rw[h];exact λ_=>nofun) (by rw[h];exact λ_ _=>nofun)
def TK.putI{C dx:AI}{xs:List (Str×V)}(h:H p=AA (.ins C dx xs)):TK K H (upd H p o):=TK.upd' (by rw[h];exact λ_ z=>by cases z) (by rw[h];exact λ_ _ z=>by cases z)
def TK.putD{xs:List (Key×V)}(h:H p=AA (.dK xs)):TK K H (upd H p o):=TK.upd' (by rw[h];exact λ_ z=>by cases z) (by rw[h];exact λ_ _ z=>by cases z)
def TK.put(h:H p=AA (.lst xs)):TK K H (upd H p o):=TK.upd' (by rw[h];exact λ_ z=>by cases z) (by rw[h];exact λ_ _ z=>by cases z)
def M5.mono{cv:AF}(h:M5 H cv)(k:TK K H H'):M5 H' cv:=let⟨c,o,u,vs,q,t,e1,e2,e3,e4⟩:=h;⟨c,o,u,vs,q,t,e1,k.2 _ _ _ e2 e3,e3,e4⟩
theorem CloR.mono{f:AI}{fd:Ba}{np:Nat}{N:List Str}{us:List V}(h:CloR H f fd np N us)(k:TK K H H'):CloR H' f fd np N us:=by
 obtain⟨⟨o,u,e1,e2,e3⟩,e5,e6,e7⟩:=h;refine⟨⟨o,u,k.2 _ _ _ e1 e2,e2,e3⟩,e5.mono k,λx c hx=>?_,λi v hv=>?_⟩
 ·obtain⟨o',u',w,a,b,c⟩:=e6 x c hx;exact⟨o',u',w,k.2 _ _ _ a b,b,c⟩
 ·obtain⟨x,c,o',u',w,a1,a2,a3,a4,a5⟩:=e7 i v hv;exact⟨x,c,o',u',w,a1,a2,k.2 _ _ _ a3 a4,a4,a5⟩
theorem W4.mono{f:AI}{np:Nat}{N:List Str}{b:Ss}{us:List V}(h:W4 H f np N b us)(k:TK K H H'):W4 H' f np N b us:=let⟨fd,ps,a,b⟩:=h;⟨fd,ps,a,b.mono k⟩
theorem IsD.mono(h:IsD K H d v)(k:TK K H H'):IsD K H' d v:=by
 induction h with
 |non=>exact .non
 |bl b=>exact .bl b
 |int i=>exact .int i
 |str x=>exact .str x
 |ref a=>exact .ref a
 |ktup h=>exact .ktup h
 |fn h=>exact .fn h
 |clo a b _ ih=>exact .clo (a.mono k) b ih
 |tup a b _ ih=>exact .tup (a.keep k) b ih
theorem IsDs.mono(h:IsDs K H ds vs)(k:TK K H H'):IsDs K H' ds vs:=⟨h.len,λi d v a b=>(h.at' i d v a b).mono k⟩
structure RelE(K:AO)(H:Hp)(env:i9)(σ:L2.St):Prop where
 len:env.length=σ.length
 at':∀(i:Nat)d,env[i]?=AA (AA d)->∃v,σ[i]?=AA (AA v)∧IsD K H d v
variable {env:i9} {st':Sto}
theorem RelE.mono(r:RelE K H env σ)(k:TK K H H'):RelE K H' env σ:=⟨r.len,λi d h=>let⟨v,a,b⟩:=r.at' i d h;⟨v,a,b.mono k⟩⟩
theorem RelE.set(r:RelE K H env σ)(h:IsD K H d v)(i:Nat):RelE K H (env.set i (AA d)) (σ.set i (AA v)):=⟨by simp[r.len],λj e q=>by
 rw[FW]at q ⊢
 by_cases hi:i=j
 ·rw[if_pos hi]at q ⊢
  split at q
  ·rename_i hl;rw[<-r.len,if_pos hl];cases q;exact⟨v,rfl,h⟩
  ·cases q
 ·rw[if_neg hi]at q ⊢;exact r.at' j e q⟩
structure IsKs(K:AO)(H:Hp)(kvs:List (Key×D))(vs:List (Key×V)):Prop where
 ks:kvs.map (·.1)=vs.map (·.1)
 ds:IsDs K H (kvs.map (·.2)) (vs.map (·.2))
theorem IsKs.mono{kvs:List (Key×D)}{vs:List (Key×V)}(h:IsKs K H kvs vs)(k:TK K H H'):IsKs K H' kvs vs:=⟨h.ks,h.ds.mono k⟩
theorem IsKs.inv_cons{e:Key×D}{kvs:List (Key×D)}{vs:List (Key×V)}(h:IsKs K H (e::kvs) vs):∃v ws,vs=(e.1,v)::ws∧IsD K H e.2 v∧IsKs K H kvs ws:=by
 cases vs with
 |nil=>have:=h.ks;simp at this
 |cons f ws=>
  obtain⟨k,v⟩:=f;have e1:=h.ks;simp only[Aa,Ah]at e1;have e2:=h.ds;simp only[Aa]at e2;obtain⟨v',ws',e3,i1,i2⟩:=e2.inv_cons;simp only[Ah]at e3;obtain⟨rfl,rfl⟩:=e3;exact⟨v,ws,by rw[e1.1],i1,⟨e1.2,i2⟩⟩
theorem IsKs.look:∀{kvs:List (Key×D)}{vs:List (Key×V)}(h:IsKs K H kvs vs)(k:Key),(y0 kvs k=AE∧o5 vs k=AE)∨∃d v,y0 kvs k=AA d∧o5 vs k=AA v∧IsD K H d v
 |[],vs,h,k=>by
  have:vs=[]:=by have:=h.ks;simpa using this.symm
  subst this;exact .inl ⟨rfl,rfl⟩
 |e::kvs,vs,h,k=>by
  obtain⟨v,ws,rfl,i1,i2⟩:=h.inv_cons;unfold y0 o5;rw[Bg,Bg]
  by_cases hk:e.1=k
  ·simp only[hk,decide_true];exact .inr ⟨e.2,v,rfl,rfl,i1⟩
  ·simp only[hk,decide_false];exact IsKs.look i2 k
structure IsPs(K:AO)(H:Hp)(kvs:List (Af×D))(vs:List (Af×V)):Prop where
 ks:kvs.map (·.1)=vs.map (·.1)
 ds:IsDs K H (kvs.map (·.2)) (vs.map (·.2))
theorem IsPs.nil:IsPs K H [] []:=⟨rfl,.nil⟩
theorem IsPs.mono{vs:List (Af×V)}(h:IsPs K H kvs vs)(k:TK K H H'):IsPs K H' kvs vs:=⟨h.ks,h.ds.mono k⟩
theorem IsPs.inv_cons{e:Af×D}{vs:List (Af×V)}(h:IsPs K H (e::kvs) vs):∃v ws,vs=(e.1,v)::ws∧IsD K H e.2 v∧IsPs K H kvs ws:=by
 cases vs with
 |nil=>have:=h.ks;simp at this
 |cons f ws=>
  obtain⟨k,v⟩:=f;have e1:=h.ks;simp only[Aa,Ah]at e1;have e2:=h.ds;simp only[Aa]at e2;obtain⟨v',ws',e3,i1,i2⟩:=e2.inv_cons;simp only[Ah]at e3;obtain⟨rfl,rfl⟩:=e3;exact⟨v,ws,by rw[e1.1],i1,⟨e1.2,i2⟩⟩
theorem IsPs.cons{k:Af}{d:D}{vs:List (Af×V)}(i:IsD K H d v)(h:IsPs K H kvs vs):IsPs K H ((k,d)::kvs) ((k,v)::vs):=⟨by simp[h.ks],by simpa using IsDs.cons i h.ds⟩
theorem IsPs.look:∀{kvs:List (Af×D)}{vs:List (Af×V)}(h:IsPs K H kvs vs)(k:Af),(B2 kvs k=AE∧o5 vs k=AE)∨∃d v,B2 kvs k=AA d∧o5 vs k=AA v∧IsD K H d v
 |[],vs,h,k=>by
  have:vs=[]:=by have:=h.ks;simpa using this.symm
  subst this;exact .inl ⟨rfl,rfl⟩
 |e::kvs,vs,h,k=>by
  obtain⟨v,ws,rfl,i1,i2⟩:=h.inv_cons;unfold B2 o5;rw[Bg,Bg]
  by_cases hk:e.1=k
  ·simp only[hk,decide_true];exact .inr ⟨e.2,v,rfl,rfl,i1⟩
  ·simp only[hk,decide_false];exact IsPs.look i2 k
theorem IsPs.any:∀{kvs:List (Af×D)}{vs:List (Af×V)}(h:IsPs K H kvs vs)(k:Af),(kvs.any λkv=>AB (kv.1=k))=(vs.any λkv=>AB (kv.1=k))
 |[],vs,h,k=>by
  have:vs=[]:=by have:=h.ks;simpa using this.symm
  subst this;rfl
 |e::kvs,vs,h,k=>by
  obtain⟨v,ws,rfl,i1,i2⟩:=h.inv_cons;rw[Ef,Ef,IsPs.any i2 k]
theorem IsPs.repl{d:D}(i:IsD K H d v)(k:Af):∀{kvs:List (Af×D)}{vs:List (Af×V)}(h:IsPs K H kvs vs),IsPs K H (kvs.map λkv=>if kv.1=k then(kv.1,d)else kv) (vs.map λkv=>if kv.1=k then(kv.1,v)else kv)
 |[],vs,h=>by
  have:vs=[]:=by have:=h.ks;simpa using this.symm
  subst this;exact .nil
 |e::kvs,vs,h=>by
  obtain⟨u,ws,rfl,i1,i2⟩:=h.inv_cons;obtain⟨x,y⟩:=e;rw[Aa,Aa];simp only
  by_cases hk:x=k
  ·rw[if_pos hk,if_pos hk];exact IsPs.cons i (IsPs.repl i k i2)
  ·rw[if_neg hk,if_neg hk];exact IsPs.cons i1 (IsPs.repl i k i2)
theorem IsPs.snoc{d:D}(i:IsD K H d v)(k:Af):∀{kvs:List (Af×D)}{vs:List (Af×V)}(h:IsPs K H kvs vs),IsPs K H (kvs++[(k,d)]) (vs++[(k,v)])
 |[],vs,h=>by
  have:vs=[]:=by have:=h.ks;simpa using this.symm
  subst this;exact IsPs.cons i .nil
 |e::kvs,vs,h=>by
  obtain⟨u,ws,rfl,i1,i2⟩:=h.inv_cons;exact IsPs.cons i1 (IsPs.snoc i k i2)
def IsPs.put{vs:List (Af×V)}(h:IsPs K H kvs vs){d:D}(i:IsD K H d v)(k:Af):IsPs K H (U1 kvs k d) (u4 vs k v):=by
 unfold U1 u4;rw[h.any k]
 by_cases q:(vs.any λkv=>AB (kv.1=k))=AC
 ·rw[if_pos q,if_pos q];exact IsPs.repl i k h
 ·rw[if_neg q,if_neg q];exact IsPs.snoc i k h
def IsPs.len{vs:List (Af×V)}(h:IsPs K H kvs vs):kvs.length=vs.length:=by
 have:=congrArg Fu h.ks;simpa using this
structure IsFs(K:AO)(H:Hp)(fs:List (Str×D))(vs:List (Str×V)):Prop where
 ks:fs.map (·.1)=vs.map (·.1)
 ds:IsDs K H (fs.map (·.2)) (vs.map (·.2))
theorem IsFs.nil:IsFs K H [] []:=⟨rfl,.nil⟩
theorem IsFs.mono{fs:List (Str×D)}{vs:List (Str×V)}(h:IsFs K H fs vs)(k:TK K H H'):IsFs K H' fs vs:=⟨h.ks,h.ds.mono k⟩
theorem IsFs.inv_cons{e:Str×D}{fs:List (Str×D)}{vs:List (Str×V)}(h:IsFs K H (e::fs) vs):∃v ws,vs=(e.1,v)::ws∧IsD K H e.2 v∧IsFs K H fs ws:=by
 cases vs with
 |nil=>have:=h.ks;simp at this
 |cons f ws=>
  obtain⟨k,v⟩:=f;have e1:=h.ks;simp only[Aa,Ah]at e1;have e2:=h.ds;simp only[Aa]at e2;obtain⟨v',ws',e3,i1,i2⟩:=e2.inv_cons;simp only[Ah]at e3;obtain⟨rfl,rfl⟩:=e3;exact⟨v,ws,by rw[e1.1],i1,⟨e1.2,i2⟩⟩
theorem IsFs.cons{k:Str}{d:D}{fs:List (Str×D)}{vs:List (Str×V)}(h:IsD K H d v)(r:IsFs K H fs vs):IsFs K H ((k,d)::fs) ((k,v)::vs):=⟨by simp only[Aa,r.ks],by simp only[Aa];exact .cons h r.ds⟩
theorem IsFs.length{fs:List (Str×D)}{vs:List (Str×V)}(h:IsFs K H fs vs):fs.length=vs.length:=by simpa using h.ds.len
theorem IsFs.look:∀{fs:List (Str×D)}{vs:List (Str×V)}(h:IsFs K H fs vs)(k:Str),(fs.lookup k=AE∧vs.lookup k=AE)∨∃d v,fs.lookup k=AA d∧vs.lookup k=AA v∧IsD K H d v
 |[],vs,h,k=>by
  have:vs=[]:=by have:=h.ks;simpa using this.symm
  subst this;exact .inl ⟨rfl,rfl⟩
 |e::fs,vs,h,k=>by
  obtain⟨v,ws,rfl,i1,i2⟩:=h.inv_cons;obtain⟨g,d⟩:=e;rw[De,De];cases hk:k==g with
  |true=>exact .inr ⟨d,v,rfl,rfl,i1⟩
  |false=>exact IsFs.look i2 k
theorem IsFs.put:∀{fs:List (Str×D)}{vs:List (Str×V)}(h:IsFs K H fs vs){d:D}{v:V}(i:IsD K H d v)(f:Str),IsFs K H (j9 f d fs) (v0 f v vs)
 |[],vs,h,d,v,i,f=>by
  have:vs=[]:=by have:=h.ks;simpa using this.symm
  subst this;exact .cons i .nil
 |e::fs,vs,h,d,v,i,f=>by
  obtain⟨w,ws,rfl,i1,i2⟩:=h.inv_cons;obtain⟨g,x⟩:=e;unfold j9 v0
  by_cases hg:g=f
  ·rw[if_pos hg,if_pos hg];exact .cons i i2
  ·rw[if_neg hg,if_neg hg];exact .cons i1 (IsFs.put i2 i f)
noncomputable def ObR(K:AO)(H:Hp)(a:AI):Ob->Prop
 |.lst ds=>∃vs,H a=AA (.lst vs)∧IsDs K H ds vs
 |.fro ds=>∃vs,Rd H a (.lst vs)∧IsDs K H ds vs
 |.dct kvs=>∃vs,H a=AA (.dK vs)∧IsKs K H kvs vs
 |.dtt kvs=>∃vs,H a=AA (.dT vs)∧IsPs K H kvs vs∧Tbs.kt=AG
 |.ins c fs=>∃C dx vs,H a=AA (.ins C dx vs)∧Aw K AN c=AA (AA (.ref C))∧IsFs K H fs vs
structure TabOk(H:Hp)(ps:Array AF):Prop where
 tr:Dw ps.toList
 co:∀pos cv,FX pos ps.toList=AA cv->M5 H cv
noncomputable def ab1(H:Hp):Prop:=∀P∈Tbs.ps,∃ps,H P=AA (.tbl ps)∧TabOk H ps
def ab1.stay(h:ab1 H)(k:TK K H H')(t:∀a ps,H a=AA (.tbl ps)->H' a=AA (.tbl ps)):ab1 H':=λP hP=>by
 obtain⟨ps,e,o⟩:=h P hP;exact⟨ps,t P ps e,o.tr,λpos cv hc=>(o.co pos cv hc).mono k⟩
structure RelS(K:AO)(st:Sto)(H:Hp):Prop where
 ob:∀a o,st a=AA o->ObR K H a o
 tb:ab1 H
def RelS.free(r:RelS K st H)(h:H p=AE):st p=AE:=by
 cases q:st p with
 |none=>rfl
 |some o=>
  have z:=r.ob p o q;cases o with
  |lst ds=>obtain⟨vs,a,_⟩:=z;rw[h]at a;cases a
  |fro ds=>
   obtain⟨vs,a|⟨o',a⟩,_⟩:=z
   ·rw[h]at a;cases a
   ·rw[h]at a;cases a
  |dct kvs=>obtain⟨vs,a,_⟩:=z;rw[h]at a;cases a
  |dtt kvs=>obtain⟨vs,a,_⟩:=z;rw[h]at a;cases a
  |ins c fs=>obtain⟨C,dx,vs,a,_⟩:=z;rw[h]at a;cases a
def RelS.sub(r:RelS K st' H)(s:Sub st st'):RelS K st H:=⟨λa o h=>r.ob a o (s a o h),r.tb⟩
theorem RelS.stay(r:RelS K st H)(k:TK K H H')(ho:∀a o,st a=AA o->H' a=H a)(t:∀a ps,H a=AA (.tbl ps)->H' a=AA (.tbl ps)):RelS K st H':=⟨λa o h=>by
 have z:=r.ob a o h;have e:=ho a o h;cases o with
 |lst ds=>obtain⟨vs,q,w⟩:=z;exact⟨vs,by rw[e];exact q,w.mono k⟩
 |fro ds=>
  obtain⟨vs,q|⟨o',q⟩,w⟩:=z
  ·exact⟨vs,.inl (by rw[e];exact q),w.mono k⟩
  ·exact⟨vs,.inr ⟨o',by rw[e];exact q⟩,w.mono k⟩
 |dct kvs=>obtain⟨vs,q,w⟩:=z;exact⟨vs,by rw[e];exact q,w.mono k⟩
 |dtt kvs=>obtain⟨vs,q,w,t⟩:=z;exact⟨vs,by rw[e];exact q,w.mono k,t⟩
 |ins c fs=>obtain⟨C,dx,vs,q,n,w⟩:=z;exact⟨C,dx,vs,by rw[e];exact q,n,w.mono k⟩,r.tb.stay k t⟩
def Z0(h:∀ps,H p≠AA (.tbl ps)):∀a ps,H a=AA (.tbl ps)->(upd H p o) a=AA (.tbl ps):=λa ps e=>by
 have ne:a≠p:=λz=>h ps (by rw[<-z];exact e);rw[i7 ne];exact e
def b96(h:H p=AE):∀a ps,H a=AA (.tbl ps)->(upd H p o) a=AA (.tbl ps):=Z0 (by rw[h];exact λ_=>nofun)
theorem RelS.new(r:RelS K st H)(h:H p=AE):RelS K st (upd H p o):=r.stay (TK.new h) (λa u e=>i7 λz=>by
 rw[z,r.free h]at e;cases e) (b96 h)
def RelS.putAny(r:RelS K st H){o':HO}(tk:TK K H (upd H p o'))(w:ObR K (upd H p o') p ob)(t:∀ps,H p≠AA (.tbl ps)):RelS K (b0 st p ob) (upd H p o'):=by
 have r':RelS K (λb=>if b=p then AE else st b) H:=⟨λb u q=>by
  split at q
  ·cases q
  ·exact r.ob b u q,r.tb⟩
 have r2:=r'.stay tk (λb u q=>i7 λz=>by
  have q':(if b=p then AE else st b)=AA u:=q;rw[if_pos z]at q';cases q') (Z0 t)
 refine⟨λa o e=>?_,r2.tb⟩
 by_cases ha:a=p
 ·subst ha;rw[c9]at e;cases e;exact w
 ·rw[B9 ha]at e;exact r2.ob a o (by show(if a=p then AE else st a)=AA o;rw[if_neg ha];exact e)
def RelS.putNew(r:RelS K st H)(h:H p=AE)(w:IsDs K H ds vs):RelS K (b0 st p (.lst ds)) (upd H p (.lst vs)):=
 r.putAny (TK.new h) ⟨vs,o9,w.mono (TK.new h)⟩ (by rw[h];exact λ_=>nofun)
def RelS.putNewD(r:RelS K st H){kvs:List (Key×D)}{ks:List (Key×V)}(h:H p=AE)(w:IsKs K H kvs ks):RelS K (b0 st p (.dct kvs)) (upd H p (.dK ks)):=
 r.putAny (TK.new h) ⟨ks,o9,w.mono (TK.new h)⟩ (by rw[h];exact λ_=>nofun)
def RelS.putOld(r:RelS K st H)(h:H p=AA (.lst xs))(w:IsDs K H ds vs):RelS K (b0 st p (.lst ds)) (upd H p (.lst vs)):=
 r.putAny (TK.put h) ⟨vs,o9,w.mono (TK.put h)⟩ (by rw[h];exact λ_ z=>by cases z)
theorem RelS.lst(r:RelS K st H)(h:st a=AA (.lst ds)):∃vs,H a=AA (.lst vs)∧IsDs K H ds vs:=r.ob a _ h
theorem RelS.dct(r:RelS K st H){kvs:List (Key×D)}(h:st a=AA (.dct kvs)):∃vs,H a=AA (.dK vs)∧IsKs K H kvs vs:=r.ob a _ h
theorem RelS.ins(r:RelS K st H){c:Str}{fs:List (Str×D)}(h:st a=AA (.ins c fs)):∃C dx vs,H a=AA (.ins C dx vs)∧Aw K AN c=AA (AA (.ref C))∧IsFs K H fs vs:=r.ob a _ h
def RelS.rd(r:RelS K st H)(h:rdS st a ds):∃vs,SqL K H a vs∧IsDs K H ds vs:=by
 rcases h with h|h
 ·obtain⟨vs,a,b⟩:=r.ob a _ h;exact⟨vs,.inl (.inl a),b⟩
 ·obtain⟨vs,a,b⟩:=r.ob a _ h;exact⟨vs,.inl a,b⟩
def RelS.rdR(r:RelS K st H)(h:rdS st a ds):∃vs,Rd H a (.lst vs)∧IsDs K H ds vs:=by
 rcases h with h|h
 ·obtain⟨vs,a,b⟩:=r.ob a _ h;exact⟨vs,.inl a,b⟩
 ·obtain⟨vs,a,b⟩:=r.ob a _ h;exact⟨vs,a,b⟩
end
noncomputable def TbE(o o':HO):Prop:=o'=o∨∃p p',o=.tbl p∧o'=.tbl p'
def TbE.trans{a b c:HO}(x:TbE a b)(y:TbE b c):TbE a c:=by
 rcases x with rfl|⟨p,p',rfl,rfl⟩
 ·exact y
 ·rcases y with rfl|⟨q,q',_,rfl⟩
  ·exact .inr ⟨p,p',rfl,rfl⟩
  ·exact .inr ⟨p,q',rfl,rfl⟩
noncomputable def Ev(st:Sto)(H:Hp)(st':Sto)(H':Hp):Prop:=∀a o,H a=AA o->st a=AE->(∃o',H' a=AA o'∧TbE o o')∧st' a=AE
section
variable {K:AO} {st1 st2:Sto} {H1 H2:Hp}
def Ev.get(e:Ev st H st1 H1)(h:H a=AA o)(k:st a=AE)(n:∀p,o≠.tbl p):H1 a=AA o∧st1 a=AE:=by
 obtain⟨⟨o',h',t⟩,k'⟩:=e a o h k
 rcases t with rfl|⟨p,_,rfl,_⟩
 ·exact⟨h',k'⟩
 ·exact absurd rfl (n p)
def Ev.refl:Ev st H st H:=λ_ o h k=>⟨⟨o,h,.inl rfl⟩,k⟩
theorem Ev.trans(a:Ev st H st1 H1)(b:Ev st1 H1 st2 H2):Ev st H st2 H2:=λc o h k=>by
 obtain⟨⟨o',h',t⟩,y⟩:=a c o h k;obtain⟨⟨o2,h2,t2⟩,z⟩:=b c o' h' y;exact⟨⟨o2,h2,t.trans t2⟩,z⟩
def RelS.no(r:RelS K st H)(h:H a=AA o)(n1:∀vs,o≠.lst vs)(n2:∀u vs,o≠.frz u (.lst vs))(n3:∀vs,o≠.dK vs)(n4:∀C dx vs,o≠.ins C dx vs)(n5:∀vs,o≠.dT vs):st a=AE:=by
 cases z:st a with
 |none=>rfl
 |some ob=>
  have w:=r.ob a ob z;cases ob with
  |lst ds=>obtain⟨vs,w1,_⟩:=w;rw[h]at w1;cases w1;exact absurd rfl (n1 vs)
  |fro ds=>
   obtain⟨vs,w1|⟨u,w1⟩,_⟩:=w
   ·rw[h]at w1;cases w1;exact absurd rfl (n1 vs)
   ·rw[h]at w1;cases w1;exact absurd rfl (n2 u vs)
  |dct kvs=>obtain⟨vs,w1,_⟩:=w;rw[h]at w1;cases w1;exact absurd rfl (n3 vs)
  |dtt kvs=>obtain⟨vs,w1,_⟩:=w;rw[h]at w1;cases w1;exact absurd rfl (n5 vs)
  |ins c fs=>obtain⟨C,dx,vs,w1,_⟩:=w;rw[h]at w1;cases w1;exact absurd rfl (n4 C dx vs)
def Ev.tk(e:Ev st H st1 H1)(r:RelS K st H):TK K H H1:=⟨⟨λa xs q=>by
 rcases q with(q|⟨o',q⟩)|q
 ·exact .inl (.inl (e.get q (r.no q (λ_ z=>by cases z) (λ_ _ z=>by cases z) (λ_ z=>by cases z) (λ_ _ _ z=>by cases z) (λ_ z=>by cases z)) (λ_ z=>by cases z)).1)
 ·exact .inl (.inr ⟨o',(e.get q (r.no q (λ_ z=>by cases z) (λ_ _ z=>by cases z) (λ_ z=>by cases z) (λ_ _ _ z=>by cases z) (λ_ z=>by cases z)) (λ_ z=>by cases z)).1⟩)
 ·exact .inr q,λa xs q=>(e.get q (r.no q (λ_ z=>by cases z) (λ_ _ z=>by cases z) (λ_ z=>by cases z) (λ_ _ _ z=>by cases z) (λ_ z=>by cases z)) (λ_ z=>by cases z)).1⟩,λa o u q n=>(e.get q (r.no q (λ_ z=>by cases z) (λ_ vs z=>by cases z;exact n vs rfl) (λ_ z=>by cases z) (λ_ _ _ z=>by cases z) (λ_ z=>by cases z)) (λ_ z=>by cases z)).1⟩
def Ev.new(h:H p=AE):Ev st H st (upd H p o):=λa u e k=>⟨⟨u,by rw[i7 (t6 e h)];exact e,.inl rfl⟩,k⟩
def Ev.newS(h:H p=AE):Ev st H (b0 st p ob) (upd H p o):=λa u e k=>⟨⟨u,by rw[i7 (t6 e h)];exact e,.inl rfl⟩,by rw[B9 (t6 e h)];exact k⟩
def Ev.put{ob':Ob}(h:st p=AA ob'):Ev st H (b0 st p ob) (upd H p o):=λa u e k=>by
 have ne:a≠p:=λz=>by rw[z,h]at k;cases k
 exact⟨⟨u,by rw[i7 ne];exact e,.inl rfl⟩,by rw[B9 ne];exact k⟩
def Ev.drop(s:Sub st2 st1)(e:Ev st H st1 H1):Ev st H st2 H1:=λa o h k=>by
 obtain⟨x,y⟩:=e a o h k;refine⟨x,?_⟩;cases z:st2 a with
 |none=>rfl
 |some u=>rw[s a u z]at y;cases y
end
noncomputable def t3(K:AO)(st:Sto)(H:Hp)(Qd:DK)(Q:VK):Prop:=∀v d H' st',Ev st H st' H'->IsD K H' d v->RelS K st' H'->Qd d st'->Q v H'
noncomputable def up(K:AO)(t:DT):TE:=λσ H Q=>∃env st Qd,RelE K H env σ∧RelS K st H∧t env st Qd∧t3 K st H Qd Q
noncomputable def upB(K:AO)(t:DB):TT:=λσ H Q=>∃env st Qd,RelE K H env σ∧RelS K st H∧t env st Qd∧∀b H' st',Ev st H st' H'->RelS K st' H'->Qd b st'->Q b H'
noncomputable def upA(K:AO)(n:Nat)(t:DA):TA:=λσ H Q=>∃env st Qd,RelE K H env σ∧RelS K st H∧t env st Qd∧∀vs ds H' st',Ev st H st' H'->IsDs K H' ds vs->ds.length=n->RelS K st' H'->Qd ds st'->Q vs H'
def _root_.L2.PE.imp{t t':TE}(h:PE X x t)(i:∀σ H Q,t' σ H Q->t σ H Q):PE X x t':=λpins s σ H Q I q=>h pins s σ H Q I (i σ H Q q)
def _root_.L2.PT.imp{t t':TT}(h:PT X x t)(i:∀σ H Q,t' σ H Q->t σ H Q):PT X x t':=λpins s σ H Q I q=>h pins s σ H Q I (i σ H Q q)
def _root_.L2.PW.imp{t t':TT}(h:PW X x t)(i:∀σ H Q,t' σ H Q->t σ H Q):PW X x t':=λw pins s σ H Q I q=>h w pins s σ H Q I (i σ H Q q)
def _root_.L2.PA.imp{x:List AS}{t t':TA}(h:PA X x t)(i:∀σ H Q,t' σ H Q->t σ H Q):PA X x t':=λpos pins s σ H Q I q=>h pos pins s σ H Q I (i σ H Q q)
def _root_.L2.PSs.imp{x:List BR}{t t':TS}(h:PSs X x t)(i:∀D σ H,t' D σ H->t D σ H):PSs X x t':=λpins s σ H D I q=>h pins s σ H D I (i D σ H q)
def _root_.L2.PS.imp{x:BR}{t t':TS}(h:PS X x t)(i:∀D σ H,t' D σ H->t D σ H):PS X x t':=λpins s σ H D I q=>h pins s σ H D I (i D σ H q)
def t3.after{K:AO}{st1:Sto}{H1:Hp}(p:t3 K st H Qd Q)(e:Ev st H st1 H1):t3 K st1 H1 Qd Q:=λv d H2 st2 e2 is rs q=>p v d H2 st2 (e.trans e2) is rs q
def t3.here{K:AO}{d:D}(p:t3 K st H Qd Q)(i:IsD K H d v)(r:RelS K st H)(q:Qd d st):Q v H:=p v d H st Ev.refl i r q
def t3.newL{K:AO}(p:t3 K st H Qd Q)(r:RelS K st H)(w:IsDs K H ds vs)(q:∀p,st p=AE->Qd (.ref p) (b0 st p (.lst ds))):∀l,H l=AE->Q (.ref l) (upd H l (.lst vs)):=λl hl=>
 p _ (.ref l) _ (b0 st l (.lst ds)) (Ev.newS hl) (.ref l) (r.putNew hl w) (q l (r.free hl))
def t3.newT{K:AO}(p:t3 K st H Qd Q)(r:RelS K st H)(w:IsDs K H ds vs)(q:Qd (.tup ds) st):∀l,H l=AE->Q (.ref l) (upd H l (.tup vs)):=λl hl=>
 p _ (.tup ds) _ st (Ev.new hl) (IsD.mk (SqX.of o9) (w.mono (TK.new hl))) (r.new hl) q
def up1{K:AO}{t:DT}{f:D->Sto->DK->Prop}{R:V->Hp->Prop}(h:up K (λenv st Q=>t env st λd st1=>f d st1 Q) σ H Q)
  (k:∀v d H' st' Qd,IsD K H' d v->RelS K st' H'->f d st' Qd->t3 K st' H' Qd Q->R v H'):up K t σ H R:=by
 obtain⟨env,st,Qd,hE,hS,ht,hq⟩:=h;exact⟨env,st,_,hE,hS,ht,λv d H' st' ev is rs q=>k v d H' st' Qd is rs q (hq.after ev)⟩
def up2{K:AO}{t u:DT}{f:D->D->Sto->DK->Prop}{R:V->V->Hp->Prop}(h:up K (λenv st Q=>t env st λd st1=>u env st1 λe st2=>f d e st2 Q) σ H Q)
  (k:∀v w d e H' st' Qd,IsD K H' d v->IsD K H' e w->RelS K st' H'->f d e st' Qd->t3 K st' H' Qd Q->R v w H'):up K t σ H λv H1=>up K u σ H1 λw H2=>R v w H2:=by
 obtain⟨env,st,Qd,hE,hS,ht,hq⟩:=h;exact⟨env,st,_,hE,hS,ht,λv d H' st' ev is rs q=>⟨env,st',_,hE.mono (ev.tk hS),rs,q,λw e H2 st2 ev2 is2 rs2 q2=>
  k v w d e H2 st2 Qd (is.mono (ev2.tk rs)) is2 rs2 q2 ((hq.after ev).after ev2)⟩⟩
def ar0{K:AO}{n:Nat}{t:DA}{f:List D->Sto->DK->Prop}{R:List V->Hp->Prop}(h:up K (λenv st Q=>t env st λds st1=>f ds st1 Q) σ H Q)
  (k:∀vs ds H' st' Qd,IsDs K H' ds vs->ds.length=n->RelS K st' H'->f ds st' Qd->t3 K st' H' Qd Q->R vs H'):upA K n t σ H R:=by
 obtain⟨env,st,Qd,hE,hS,ht,hq⟩:=h;exact⟨env,st,_,hE,hS,ht,λvs ds H' st' ev is hl rs q=>k vs ds H' st' Qd is hl rs q (hq.after ev)⟩
def c06{t:DT}(h:PE X x (up X.K t))(he:∀whole,HK x X.env whole=(do let v <-whole;Gr x.pos;holding [v] (truthy v))):
  PT X x (upB X.K λenv st Q=>t env st λd st'=>∃b,d=.bl b∧Q b st'):=PT.imp (cp6 h he) λσ H Q q=>by
 obtain⟨env,st,Qd,hE,hS,ht,hq⟩:=q;refine⟨env,st,_,hE,hS,ht,λv d H' st' ev is rs q=>?_⟩;obtain⟨b,rfl,q⟩:=q;cases is;exact⟨b,rfl,hq b H' st' ev rs q⟩
end Ek
namespace Ek
open PySem PySem.Spec PyProof.Rows L2
variable [Tbs]
mutual
theorem D9:∀d:D,d.pure=AC->d.py.canLay0=AC
 |.non,_=>rfl
 |.bl _,_=>rfl
 |.int _,_=>rfl
 |.str _,h=>h
 |.tup ds,h=>by show Cv (D.pys ds)=AC;exact aa3 ds h
 |.ref _,h=>nomatch h
 |.fn _,h=>nomatch h
 |.clo _ _ _ _,h=>nomatch h
 |.ktup _,h=>nomatch h
theorem aa3:∀ds:List D,D.pures ds=AC->Cv (D.pys ds)=AC
 |[],_=>rfl
 |d::r,h=>by
  have h':d.pure=AC∧D.pures r=AC:=by simpa[D.pures]using h
  show(d.py.canLay0&&Cv (D.pys r))=AC;rw[D9 d h'.1,aa3 r h'.2];rfl
end
theorem ah9:∀{ds:List D},D.pures ds=AC->∀d∈ds,d.pure=AC
 |[],_,d,h=>by cases h
 |e::r,h,d,hd=>by
  have h':e.pure=AC∧D.pures r=AC:=by simpa[D.pures]using h
  rcases AM.mp hd with z|z
  ·rw[z];exact h'.1
  ·exact ah9 h'.2 d z
section
variable {X:Cx} {pins:List (AI×Obj)} {σ:L2.St} {H:Hp} {s:AJ}
def B8(I:L2.Inv X pins σ H s){d:D}{v:V}(h:IsD X.K H d v):∀{u:AF},d.pure=AC->f9 v u->∃as,Reads s.heap u d.py as:=by
 induction h with
 |non=>intro u _ r;cases r;exact⟨_,.none⟩
 |bl b=>intro u _ r;cases r;exact⟨_,.bool b⟩
 |int i=>intro u _ r;obtain⟨t,rfl⟩:=r;exact⟨_,.int i t⟩
 |str x=>intro u _ r;obtain⟨t,rfl⟩:=r;exact⟨_,.str x t⟩
 |ref a=>intro u h;cases h
 |fn _=>intro u h;cases h
 |clo _ _ _ _=>intro u h;cases h
 |ktup _=>intro u h;cases h
 |@tup a ds vs hq hl hat ih=>
  intro u hp r;cases r;obtain⟨its,rv,⟨o,ho,hc,n,hd⟩,hz⟩:=I.tuple hq.sqt;have all:∀(ds':List D)(vs':List V)(us':List AF),(∀(i:Nat)d v,ds'[i]?=AA d->vs'[i]?=AA v->∀{u:AF},d.pure=AC->f9 v u->∃as,Reads s.heap u d.py as)->ds'.length=vs'.length->D.pures ds'=AC->f7 vs' us'->∃as,ReadsAll s.heap us' (D.pys ds') as:=by
   intro ds'
   induction ds' with
   |nil=>intro vs' us' _ hl' _ q;cases vs' with
    |nil=>cases q;exact⟨[],.nil⟩
    |cons a b=>simp at hl'
   |cons e es ihe=>
    intro vs' us' hat' hl' hp' q;cases vs' with
    |nil=>simp at hl'
    |cons w ws=>
     have hp2:e.pure=AC∧D.pures es=AC:=by simpa[D.pures]using hp'
     cases q with
     |cons q1 q2=>
      obtain⟨as,ra⟩:=hat' 0 e w rfl rfl hp2.1 q1;obtain⟨bs,rb⟩:=ihe ws _ (λi d v a b=>hat' (i+1) d v (by simpa using a) (by simpa using b)) (by simpa using hl') hp2.2 q2;exact⟨as++bs,.cons ra rb⟩
  obtain⟨as,ra⟩:=all ds vs its ih hl hp rv;exact⟨as,.tuple ho hc hd (by simpa using ra)⟩
def a09{A:BL}{a b:Nat}(hu:A.units+200<Bk)(h:Dv a b<=150):A.units+min a b<Bk:=by
 have:min a b<=150:=h;lia
def ct9(hu:X.A.units+200<Bk):OpR X (Bl .Eq) (λx y H Q=>∃d e,IsD X.K H d x∧IsD X.K H e y∧d.pure=AC∧e.pure=AC∧Dv (l6 d) (l6 e)<=150∧Q (.bl (deq d e)) H):=by
 intro pins s σ H x y v u Q I rx ry h;obtain⟨d,e,h1,h2,p1,p2,hd,q⟩:=h;obtain⟨as,ra⟩:=B8 I h1 p1 rx;obtain⟨bs,rb⟩:=B8 I h2 p2 ry;exact SeqAt.rcAt_reads ra rb (D9 d p1) (D9 e p2) (a09 hu hd) X.prog X.w _ _ ⟨.bl (deq d e),H,I,rfl,q⟩
def cn2(hu:X.A.units+200<Bk):OpR X (Bl .NotEq) (λx y H Q=>∃d e,IsD X.K H d x∧IsD X.K H e y∧d.pure=AC∧e.pure=AC∧Dv (l6 d) (l6 e)<=150∧Q (.bl (!deq d e)) H):=by
 intro pins s σ H x y v u Q I rx ry h;obtain⟨d,e,h1,h2,p1,p2,hd,q⟩:=h;obtain⟨as,ra⟩:=B8 I h1 p1 rx;obtain⟨bs,rb⟩:=B8 I h2 p2 ry;exact SeqAt.rcNeAt_reads ra rb (D9 d p1) (D9 e p2) (a09 hu hd) X.prog X.w _ _ ⟨.bl (!deq d e),H,I,rfl,q⟩
theorem al6:∀(ds:List D)(x:D),((D.pys ds).any λy=>Aq y x.py)=ds.any λy=>deq y x
 |[],_=>rfl
 |d::r,x=>by
  show(Aq d.py x.py||(D.pys r).any _)=(deq d x||r.any _);rw[al6 r x];rfl
def aa1{A:BL}{a b:Nat}(hu:A.units+200<Bk)(h:b<=150):A.units+1+min a b<Bk:=by
 have:min a b<=b:=Dr _ _;lia
def bb8(hu:X.A.units+200<Bk):OpR X (Bl .In) (λx y H Q=>∃d es,IsD X.K H d x∧IsD X.K H (.tup es) y∧d.pure=AC∧D.pures es=AC∧l6 d<=150∧Q (.bl (es.any λe=>deq e d)) H):=by
 intro pins s σ H x y v u Q I rx ry h;obtain⟨d,es,h1,h2,p1,p2,hd,q⟩:=h;obtain⟨as,ra⟩:=B8 I h1 p1 rx;obtain⟨bs,rb⟩:=B8 I h2 p2 ry;have rb':Reads s.heap u (.tuple (D.pys es)) bs:=rb;exact SeqAt.in_tuple_reads rb' ra (aa3 es p2) (D9 d p1) (aa1 hu hd) (by rw[al6];exact⟨.bl _,H,I,rfl,q⟩)
def cc3(hu:X.A.units+200<Bk):OpR X (Bl .NotIn) (λx y H Q=>∃d es,IsD X.K H d x∧IsD X.K H (.tup es) y∧d.pure=AC∧D.pures es=AC∧l6 d<=150∧Q (.bl (!es.any λe=>deq e d)) H):=by
 intro pins s σ H x y v u Q I rx ry h;obtain⟨d,es,h1,h2,p1,p2,hd,q⟩:=h;obtain⟨as,ra⟩:=B8 I h1 p1 rx;obtain⟨bs,rb⟩:=B8 I h2 p2 ry;have rb':Reads s.heap u (.tuple (D.pys es)) bs:=rb;exact SeqAt.notIn_tuple_reads rb' ra (aa3 es p2) (D9 d p1) (aa1 hu hd) (by rw[al6];exact⟨.bl _,H,I,rfl,q⟩)
end
end Ek
namespace PySem
def bv2:fillsNumberSlot (.type "tuple") "mul"=pure AG:=
 fillsNumberSlot_seq (id:="tuple.__mul__") (r:=AA (.builtin "tuple.__rmul__")) ES.lookup (by decide+kernel) Iw.lookup (by decide+kernel)
def bw3:seqRepeat? (.type "tuple")=pure (AA (.builtin "tuple.__mul__")):=by
 unfold seqRepeat?;rw[seqSlot_of (T:="tuple") (name:="__mul__") (id:="tuple.__mul__") ES.lookup (by decide+kernel),seqSlot_of (T:="tuple") (name:="__rmul__") (id:="tuple.__rmul__") Iw.lookup (by decide+kernel)];rfl
def bv7(a:Int)(t:Tok)(l:AI)(xs:Array AF)(n:Nat)(dd:Option AI)(sl:Array (Option AF)):
  IY (Cf.«int.__rmul__» ⟨[.int a t,.ref l],[]⟩) (λ_ R s=>s.heap.get? l=AA {cls:=.type "tuple",dict:=dd,data:=.seq xs n,slots:=sl}∧R (.ok (.ret Value.notImplemented)) s):=
 .of_wp λprog w A R s h=>by obtain⟨hp,g,d,tk,os⟩:=s;obtain⟨hl,h⟩:=h;wp_walk;exact⟨_,rfl,h⟩
def b15(l:AI)(xs:Array AF)(n:Nat)(dd:Option AI)(sl:Array (Option AF))(k:Int)(u:Tok)(h0:xs.isEmpty=AG)(h1:2<=k)(h2:k<2^63)(hz:xs.size*k.toNat<=sizeLine):
  IY (Cf.«tuple.__mul__» ⟨[.ref l,.int k u],[]⟩) (λ_ R s=>s.heap.get? l=AA {cls:=.type "tuple",dict:=dd,data:=.seq xs n,slots:=sl}∧R (.ok (.ret (An s.heap.objs.size))) {s with heap:=s.heap.push {cls:=EI "tuple",data:=Data.seq (FF (λx1 x2=>x1++x2) #[] (AX k.toNat xs))},toks:=s.toks}):=
 .of_wp λprog w A R s h=>by
  obtain⟨hp,g,d,tk,os⟩:=s;obtain⟨hl,h⟩:=h;have hT:(⟨hp,g,d,tk,os⟩:AJ).TypeIs (.ref l) "tuple":=⟨_,hl,rfl⟩;have c1:(AB (k < -(2^63))||AB (k>=2^63))=AG:=by simp;lia
  have c2:(xs.isEmpty||k==1)=AG:=by rw[h0];simp;lia
  have c3:(AB (k<=0)||xs.isEmpty)=AG:=by rw[h0];simp;lia
  have e4:(xs.size:Int)*k=((xs.size*k.toNat:Nat):Int):=by rw[Ix,Int.toNat_of_nonneg (by lia)]
  have c4:¬((xs.size:Int)*k>(2^63-1) / 8):=by
   rw[e4];have:(sizeLine:Nat)<=(2^63-1) / 8:=by decide
   lia
  have c5:FD ((xs.size:Int)*k)=AG:=by
   unfold FD;rw[e4];exact decide_eq_false (by lia)
  show AT _ _ (asIndex (.int k u)>>=_) _ _ _;refine AD (AK ?_);dsimp only;rw[c1];simp only[BO,if_false];refine AD (AD (Cj hl rfl (AK ?_)));rw[c2,c3];simp only[BO,if_false];rw[if_neg c4,c5];simp only[BO,if_false];refine AD (BY (AK ⟨_,rfl,h⟩) ?_);have hs:(FF (λx1 x2=>x1++x2) #[] (AX k.toNat xs)).size=k.toNat*xs.size:=by
   have:=L2.ai6 xs.toList k.toNat [];simp only[DW]at this;rw[show(AX k.toNat xs.toList.toArray)=AX k.toNat xs by simp]at this;rw[show((#[]:Array AF))=([]:List AF).toArray from rfl,this];simp[L2.a63]
  show(FF (λx1 x2=>x1++x2) #[] (AX k.toNat xs)).size<=sizeLine;rw[hs,GR];exact hz
def b09(l:AI)(xs:Array AF)(n:Nat)(dd:Option AI)(sl:Array (Option AF))(u:Tok):
  IY (Cf.«tuple.__mul__» ⟨[.ref l,.int 1 u],[]⟩) (λ_ R s=>s.heap.get? l=AA {cls:=.type "tuple",dict:=dd,data:=.seq xs n,slots:=sl}∧R (.ok (.ret (An l))) s):=
 .of_wp λprog w A R s h=>by
  obtain⟨hp,g,d,tk,os⟩:=s;obtain⟨hl,h⟩:=h;have hT:(⟨hp,g,d,tk,os⟩:AJ).TypeIs (.ref l) "tuple":=⟨_,hl,rfl⟩;show AT _ _ (asIndex (.int 1 u)>>=_) _ _ _;refine AD (AK ?_);dsimp only;rw[if_neg (by decide)];refine AD (AD (Cj hl rfl (AK ?_)));rw[if_pos (by simp)];refine AD (AD (Ds hT (AK ?_)));rw[if_pos (by decide)];exact AD (DU (AK ⟨_,rfl,h⟩))
end PySem
namespace L2
open PySem PySem.Spec PyProof.Rows
variable {X:Cx}
noncomputable def c08(K:AO):R2:=λx y H Q=>∃a k xs,x=.ref a∧y=.int k∧SqT K H a xs∧xs≠[]∧1<=k∧k<2^62∧xs.length*k.toNat<=sizeLine ∧
 (k=1->Q (.ref a) H)∧(k≠1->∀p,H p=AE->Q (.ref p) (upd H p (.tup (AX k.toNat xs).flatten)))
def ch6:OpR X (Co .Mult) (c08 X.K):=by
 intro pins s σ H x y v u Q I rx ry h;obtain⟨a,k,xs,rfl,rfl,ha,hne,h1,h2,hz,q1,q2⟩:=h;cases rx;obtain⟨t,rfl⟩:=ry;obtain⟨its,r,p1,hl⟩:=I.tuple ha;obtain⟨⟨cls,dd,data,sl⟩,ho,hc,n,hd⟩:=id p1;simp only at hc hd;subst hc hd;have hlen:=r.length;have go:∀{R:AF->AJ->Prop},AT (model X.prog X.w) X.A (call (.builtin "tuple.__mul__") [.ref a,.int k t]) R X.xe s->AT (model X.prog X.w) X.A (Co .Mult (.ref a) (.int k t)) R X.xe s:=λhh=>
  wpAny_binaryOp_repeat_ref (T:="tuple") (U:="int") (by decide) ⟨_,ho,rfl⟩ (λs'=>JK s' k t) bv2 F.fills_int_mul JZ bw3 F.slot_int_index.lookup
   (CU JZ (JK s k t) F.entry_int_rmul (F.args_int_rmul_2 _ _) (bv7 k t a its.toArray n dd sl) ⟨ho,rfl,⟨_,ho,rfl⟩,hh⟩)
 by_cases hk:k=1
 ·subst hk;exact go (CU ES ⟨_,ho,rfl⟩ Iy (Ia _ _) (b09 a its.toArray n dd sl t) ⟨ho,⟨.ref a,H,I,rfl,q1 rfl⟩⟩)
 ·have hie:its.toArray.isEmpty=AG:=by
   cases its with
   |nil=>exact absurd (Ay hlen) hne
   |cons a b=>simp
  refine go (CU ES ⟨_,ho,rfl⟩ Iy (Ia _ _) (b15 a its.toArray n dd sl k t hie (by lia) (by lia) (by rw[AY,<-hlen];exact hz)) ⟨ho,?_⟩);have hnew:FF (λx1 x2=>x1++x2) #[] (AX k.toNat its.toArray)=(AX k.toNat its).flatten.toArray:=by
   have:=ai6 its k.toNat [];rw[DW]at this;exact this
  rw[hnew];refine⟨.ref _,_,I.laid (t':=s.toks) (o:=.tup (AX k.toNat xs).flatten) (λb o e=>AQ _ e) (AU _) ⟨?_,_,r.rep k.toNat,⟨_,Ap _ rfl,rfl,rfl,_,rfl⟩⟩,rfl,q2 hk _ I.fresh⟩;rw[a63,GR];exact hz
end L2
namespace Ek
open PySem PySem.Spec PyProof.Rows L2
variable [Tbs]
variable{x:AS}{v:V}{i:Int}{es:List AS}{n:Nat}{H:Hp}{o:Dn}
section
variable {X:Cx} {a b c:AS} {ta tb tc:DT} {pos:Pos}
def ac3{d:D}(h:PE X x (tC v))(i:∀H,IsD X.K H d v):PE X x (up X.K λ_ st Q=>Q d st):=PE.imp h λσ H Q q=>by
 obtain⟨env,st,Qd,hE,hS,ht,hq⟩:=q;exact hq.here (i H) hS ht
def co5{i:Nat}{x:Str}(hN:X.N[i]?=AA x)(hv:Vis X.env.scope x)(hd:(x==("__debug__":Str))=AG)(hcd:(x==("__classdict__":Str))=AG):PE X (.Name x pos) (up X.K λenv st Q=>∃d,env[i]?=AA (AA d)∧Q d st):=
 PE.imp (an3 hN hv hd hcd) λσ H Q q=>by
  obtain⟨env,st,Qd,hE,hS,⟨d,h1,ht⟩,hq⟩:=q;obtain⟨v,h2,is⟩:=hE.at' i d h1;exact⟨v,h2,hq.here is hS ht⟩
def l7{xs:List AS}{env:Env}(h:∀e p,x≠.Starred e p):Ak (x::xs) env=(AG,eval x env)::Ak xs env:=by
 cases x<;>first|rfl|exact absurd rfl (h _ _)
def bh0:PA X [] (upA X.K 0 λ_ st Q=>Q [] st):=PA.imp bh2 λσ H Q q=>by
 obtain⟨env,st,Qd,hE,hS,ht,hq⟩:=q;exact hq [] [] H st Ev.refl .nil rfl hS ht
def Q0{t:DA}(ha:PE X a (up X.K ta))(hr:PA X es (upA X.K n t))(h:∀e p,a≠.Starred e p):PA X (a::es) (upA X.K (n+1) λenv st Q=>ta env st λd st1=>t env st1 λds st2=>Q (d::ds) st2):=
 PA.imp (ak8 ha hr (l7 h)) λσ H Q q=>by
  obtain⟨env,st,Qd,hE,hS,ht,hq⟩:=q;exact⟨env,st,_,hE,hS,ht,λv d H1 st1 ev is rs q1=>⟨env,st1,_,hE.mono (ev.tk hS),rs,q1,λvs ds H2 st2 ev2 is2 hl rs2 q2=>
   hq (v::vs) (d::ds) H2 st2 (ev.trans ev2) (.cons (is.mono (ev2.tk rs)) is2) (by simp[hl]) rs2 q2⟩⟩
def cu4{k:Nat}{t:DA}(h:PA X es (upA X.K n t))(hn:n<=1000):PE X (.Tuple es k pos) (up X.K λenv st Q=>t env st λds st1=>Q (.tup ds) st1):=
 PE.imp (cr6 h) λσ H Q q=>ar0 (f:=λds st1 Q=>Q (.tup ds) st1) q λvs ds H' st' Qd is hl rs ht hq=>⟨by rw[<-is.len,hl];exact GH (aw0 hn),hq.newT rs is ht⟩
def cr2{t:DA}(h:PA X es (upA X.K n t))(hn:n<=1000):PE X (.List es pos) (up X.K λenv st Q=>t env st λds st1=>∀p,st1 p=AE->Q (.ref p) (b0 st1 p (.lst ds))):=
 PE.imp (cp0 h) λσ H Q q=>ar0 (f:=λds st1 Q=>∀p,st1 p=AE->Q (.ref p) (b0 st1 p (.lst ds))) q λvs ds H' st' Qd is hl rs ht hq=>⟨by rw[<-is.len,hl];exact GH (aw0 hn),hq.newL rs is ht⟩
def IsD.int_inv{K:AO}(h:IsD K H (.int i) v):v=.int i:=by cases h;rfl
def IsD.str_inv{K:AO}{i:Str}(h:IsD K H (.str i) v):v=.str i:=by cases h;rfl
def IsD.bl_inv{K:AO}{i:Bool}(h:IsD K H (.bl i) v):v=.bl i:=by cases h;rfl
def IsD.ref_inv{K:AO}{i:AI}(h:IsD K H (.ref i) v):v=.ref i:=by cases h;rfl
def ch5{k:Nat}(h:n<2^k)(h0:n≠0):n.log2<k:=(Nat.log2_lt h0).mpr h
def ba5(h:i.natAbs<2^20000):DF i<=20000:=by
 unfold DF
 by_cases h0:i=0
 ·subst h0;exact BU _
 ·rw[if_neg (by simpa using h0)];exact ch5 h (by lia)
theorem O8.ok{j:Int}(h:O8 i j):KR i j:=by
 rcases h with h|⟨h1,h2⟩
 ·exact h.ok
 ·have b1:=ba5 h1;have b2:=ba5 h2;unfold KR;have:Fx ((DF i:Int)+(DF j:Int))=AG:=by
   unfold Fx;refine decide_eq_false ?_;have:(40000:Int)<=(bitsLine:Nat):=by decide
   lia
  first
   |(rw[this];simp)
   |(intro z;simp only[At]at z;have z3:=z.2;first|(rw[this]at z3;cases z3)|(simp[this]at z3))
def ck3:OpR X (Co .Mult) (rI O8 λi j=>.int (i*j)):=opI λ_ _ _ _ _ _ _ hc q=>mul_int q hc.ok
theorem _root_.Ek.IsDs.repl{K:AO}{xs:List D}{vs:List V}(r:IsDs K H xs vs):∀n:Nat,IsDs K H (AX n xs).flatten (AX n vs).flatten
 |0=>.nil
 |n+1=>by
  rw[Bx,Bx,CC,CC];exact r.append (r.repl n)
def cr5{o:Ec}(ha:PE X a (up X.K ta))(hb:PE X b (up X.K tb)):PE X (.BinOp a o b pos) (up X.K λenv st Q=>ta env st λx st1=>tb env st1 λy st2=>w8 o x y st2 Q):=by
 have bad:∀{P:Prop},False->P:=λh=>h.elim;cases o with
 |Add=>
  refine PE.imp (O6 (cn3.or (ci7.or cm9)) ha hb) λσ H Q q=>up2 (f:=w8 .Add) q λv w d e H' st' Qd i1 i2 rs ht hq=>?_;cases d<;>cases e<;>first|exact AZ ht|skip
  ·exact .inl ⟨_,_,i1.int_inv,i2.int_inv,hq.here (.int _) rs ht⟩
  ·rename_i xs ys;obtain⟨p,vs,e1,q1,r1⟩:=i1.tup_invX;obtain⟨q',ws,e2,q2,r2⟩:=i2.tup_invX;refine .inr (.inl ⟨p,q',vs,ws,e1,e2,q1.sqt,q2.sqt,by rw[<-r1.len,<-r2.len];exact ht.1,λz=>?_,λz1 z2=>?_,λ_ _=>hq.newT rs (r1.append r2) ht.2⟩)
   ·have:xs=[]:=by rw[z]at r1;have:=r1.len;exact Ay (by simpa using this)
    subst this;exact hq.here (IsD.mk q2 r2) rs ht.2
   ·have:ys=[]:=by rw[z2]at r2;have:=r2.len;exact Ay (by simpa using this)
    subst this;have h2:=ht.2;rw[BP]at h2;exact hq.here (IsD.mk q1 r1) rs h2
  ·obtain⟨xs,ys,s1,s2,hz,h2⟩:=ht;obtain⟨vs,e1,r1⟩:=rs.lst s1;obtain⟨ws,e2,r2⟩:=rs.lst s2;exact .inr (.inr ⟨_,_,vs,ws,i1.ref_inv,i2.ref_inv,e1,e2,by rw[<-r1.len,<-r2.len];exact hz,hq.newL rs (r1.append r2) h2⟩)
 |Sub=>
  refine PE.imp (O6 cv2 ha hb) λσ H Q q=>up2 (f:=w8 .Sub) q λv w d e H' st' Qd i1 i2 rs ht hq=>?_;cases d<;>cases e<;>first|exact AZ ht|skip
  exact⟨_,_,i1.int_inv,i2.int_inv,hq.here (.int _) rs ht⟩
 |Mult=>
  refine PE.imp (O6 (ck3.or ch6) ha hb) λσ H Q q=>up2 (f:=w8 .Mult) q λv w d e H' st' Qd i1 i2 rs ht hq=>?_;cases d<;>cases e<;>first|exact AZ ht|skip
  ·exact .inl ⟨_,_,i1.int_inv,i2.int_inv,ht.1,hq.here (.int _) rs ht.2⟩
  ·rename_i xs k;obtain⟨p,vs,e1,q1,r1⟩:=i1.tup_invX;obtain⟨h0,h1,h2,h3,ht⟩:=ht;refine .inr ⟨p,k,vs,e1,i2.int_inv,q1.sqt,λz=>h0 (by rw[z]at r1;exact Ay (by simpa using r1.len)),h1,h2,by rw[<-r1.len];exact h3,λz=>?_,λ_=>hq.newT rs (r1.repl k.toNat) ht⟩;subst z;have ht':Qd (.tup xs) st':=by simpa using ht
   exact hq.here (IsD.mk q1 r1) rs ht'
 |Mod=>
  refine PE.imp (O6 cv0 ha hb) λσ H Q q=>up2 (f:=w8 .Mod) q λv w d e H' st' Qd i1 i2 rs ht hq=>?_;cases d<;>cases e<;>first|exact AZ ht|skip
  exact⟨_,_,i1.int_inv,i2.int_inv,ht.1,hq.here (.int _) rs ht.2⟩
 |FloorDiv=>
  refine PE.imp (O6 cb0 ha hb) λσ H Q q=>up2 (f:=w8 .FloorDiv) q λv w d e H' st' Qd i1 i2 rs ht hq=>?_;cases d<;>cases e<;>first|exact AZ ht|skip
  exact⟨_,_,i1.int_inv,i2.int_inv,ht.1,hq.here (.int _) rs ht.2⟩
 |Pow=>
  refine PE.imp (O6 cr9 ha hb) λσ H Q q=>up2 (f:=w8 .Pow) q λv w d e H' st' Qd i1 i2 rs ht hq=>?_;cases d<;>cases e<;>first|exact AZ ht|skip
  exact⟨_,_,i1.int_inv,i2.int_inv,ht.1,hq.here (.int _) rs ht.2⟩
 |_=>
  refine PE.imp (O6 (op:=_) (r:=λ_ _ _ _=>False) (λ_ _ _ _ _ _ _ _ _ _ _ _ h=>h.elim) ha hb) λσ H Q q=>up2 (f:=λ_ _ _ _=>False) (by
   obtain⟨env,st,Qd,hE,hS,ht,hq⟩:=q;exact⟨env,st,Qd,hE,hS,ht,hq⟩) λv w d e H' st' Qd i1 i2 rs ht hq=>ht
def co2(ha:PE X a (up X.K ta)):PE X (.UnaryOp .USub a pos) (up X.K λenv st Q=>ta env st λx st1=>∃i,x=.int i∧Q (.int (-i)) st1):=
 PE.imp (c04 cw2 ha) λσ H Q q=>up1 (f:=λx st1 Q=>∃i,x=.int i∧Q (.int (-i)) st1) q λv d H' st' Qd is rs ht hq=>by
  obtain⟨i,rfl,ht⟩:=ht;exact⟨i,is.int_inv,hq.here (.int _) rs ht⟩
noncomputable def ad4(X:Cx):Dn->R2
 |.Eq=>λx y H Q=>∃d e,IsD X.K H d x∧IsD X.K H e y∧d.pure=AC∧e.pure=AC∧Dv (l6 d) (l6 e)<=150∧Q (.bl (deq d e)) H
 |.NotEq=>λx y H Q=>∃d e,IsD X.K H d x∧IsD X.K H e y∧d.pure=AC∧e.pure=AC∧Dv (l6 d) (l6 e)<=150∧Q (.bl (!deq d e)) H
 |.Lt=>rI0 λi j=>.bl (AB (i<j))
 |.LtE=>rI0 λi j=>.bl (AB (i<=j))
 |.Gt=>rI0 λi j=>.bl (AB (j<i))
 |.GtE=>rI0 λi j=>.bl (AB (j<=i))
 |.In=>λx y H Q=>(∃d es,IsD X.K H d x∧IsD X.K H (.tup es) y∧d.pure=AC∧D.pures es=AC∧l6 d<=150∧Q (.bl (es.any λe=>deq e d)) H)∨(∃(i:Int)(ns:List Int)(a:AI),x=.int i∧y=.ref a∧SqT X.K H a (ns.map V.int)∧Q (.bl (AB (i∈ns))) H)∨∃a k kvs,x=kV k∧y=.ref a∧H a=AA (.dK kvs)∧Q (.bl (o5 kvs k).isSome) H
 |.NotIn=>λx y H Q=>(∃d es,IsD X.K H d x∧IsD X.K H (.tup es) y∧d.pure=AC∧D.pures es=AC∧l6 d<=150∧Q (.bl (!es.any λe=>deq e d)) H)∨∃a k kvs,x=kV k∧y=.ref a∧H a=AA (.dK kvs)∧Q (.bl (!(o5 kvs k).isSome)) H
 |_=>λ_ _ _ _=>False
omit [Tbs]in
theorem a94 [Tbs]{K:AO}:∀ns:List Int,IsDs K H (ns.map D.int) (ns.map V.int)
 |[]=>.nil
 |n::r=>.cons (.int n) (a94 r)
omit [Tbs]in
theorem a06:∀ns:List Int,D.pures (ns.map D.int)=AC
 |[]=>rfl
 |n::r=>by show(AC&&D.pures (r.map D.int))=AC;rw[a06 r];rfl
omit [Tbs]in
theorem bf8:∀ns:List Int,((ns.map D.int).any λe=>deq e (.int i))=AB (i∈ns)
 |[]=>rfl
 |n::r=>by
  have e:deq (.int n) (.int i)=AB (n=i):=by unfold deq D.py Aq;exact GA.mpr (by simp)
  rw[Aa,Ef,bf8 r,e];simp only[AM,Iz]
  congr 1;exact decide_eq_decide.mpr ⟨Ib,Ib⟩
def a55(hu:X.A.units+200<Bk):∀o:Dn,OpR X (Bl o) (ad4 X o)
 |.Eq=>ct9 hu
 |.NotEq=>cn2 hu
 |.Lt=>cy7
 |.LtE=>c01
 |.Gt=>cz1
 |.GtE=>c10
 |.In=>λpins s σ H x y v u Q I rx ry h=>by
  rcases h with h|⟨i,ns,a,rfl,rfl,sq,q⟩|⟨a,k,kvs,rfl,rfl,e,q⟩
  ·exact bb8 hu pins s σ H x y v u Q I rx ry h
  ·letI T:Tbs:=⟨[],λ_ _ _ _=>True,AC⟩
   exact @bb8 T X hu pins s σ H _ _ v u Q I rx ry ⟨.int i,ns.map D.int,.int i,IsD.mk (.inr ⟨rfl,sq⟩) (a94 ns),rfl,a06 ns,BU _,by rw[bf8];exact q⟩
  ·cases ry;exact bu0 (by lia) I (u2.k e) rx λs' I'=>⟨.bl _,H,I',rfl,q⟩
 |.NotIn=>λpins s σ H x y v u Q I rx ry h=>by
  rcases h with h|⟨a,k,kvs,rfl,rfl,e,q⟩
  ·exact cc3 hu pins s σ H x y v u Q I rx ry h
  ·cases ry;exact a69 (by lia) I (u2.k e) rx λs' I'=>⟨.bl _,H,I',rfl,q⟩
 |.Is=>λ_ _ _ _ _ _ _ _ _ _ _ _ h=>h.elim
 |.IsNot=>λ_ _ _ _ _ _ _ _ _ _ _ _ h=>h.elim
def bb0{w:V}{d e:D}{H':Hp}{st':Sto}{Qd:DK}{Q:VK}(i1:IsD X.K H' d v)(i2:IsD X.K H' e w)(rs:RelS X.K st' H')(ht:o0 o d e st' Qd)(hq:t3 X.K st' H' Qd Q):ad4 X o v w H' Q:=by
 cases o with
 |Eq=>exact⟨d,e,i1,i2,ht.1,ht.2.1,ht.2.2.1,hq.here (.bl _) rs ht.2.2.2⟩
 |NotEq=>exact⟨d,e,i1,i2,ht.1,ht.2.1,ht.2.2.1,hq.here (.bl _) rs ht.2.2.2⟩
 |Lt=>cases d<;>cases e<;>first|exact AZ ht|exact⟨_,_,i1.int_inv,i2.int_inv,hq.here (.bl _) rs ht⟩
 |LtE=>cases d<;>cases e<;>first|exact AZ ht|exact⟨_,_,i1.int_inv,i2.int_inv,hq.here (.bl _) rs ht⟩
 |Gt=>cases d<;>cases e<;>first|exact AZ ht|exact⟨_,_,i1.int_inv,i2.int_inv,hq.here (.bl _) rs ht⟩
 |GtE=>cases d<;>cases e<;>first|exact AZ ht|exact⟨_,_,i1.int_inv,i2.int_inv,hq.here (.bl _) rs ht⟩
 |In=>
  have hd:∀(k:Key)(a:AI)(kvs:List (Key×D)),v=kV k->w=.ref a->st' a=AA (.dct kvs)->Qd (.bl (y0 kvs k).isSome) st'->ad4 X .In v w H' Q:=λk a kvs e1 e2 e3 ht=>by
   obtain⟨vs,h1,h2⟩:=rs.dct e3;refine .inr (.inr ⟨a,k,vs,e1,e2,h1,?_⟩)
   rcases h2.look k with⟨l1,l2⟩|⟨d,v,l1,l2,_⟩<;>(rw[l1]at ht;rw[l2];exact hq.here (.bl _) rs ht)
  cases e with
  |tup es=>exact .inl ⟨d,es,i1,i2,ht.1,ht.2.1,ht.2.2.1,hq.here (.bl _) rs ht.2.2.2⟩
  |ref a=>
   cases d<;>first|exact AZ ht|skip
   ·obtain⟨kvs,e,ht⟩:=ht;exact hd (.inl _) a kvs i1.int_inv i2.ref_inv e ht
   ·obtain⟨kvs,e,ht⟩:=ht;exact hd (.inr _) a kvs i1.str_inv i2.ref_inv e ht
  |ktup ns=>
   cases d<;>first|exact AZ ht|skip
   cases i2 with
   |ktup sq=>exact .inr (.inl ⟨_,ns,_,i1.int_inv,rfl,sq.elim (λz=>by rcases z with z|⟨_,z⟩<;>cases z) .inr,hq.here (.bl _) rs ht⟩)
  |_=>exact AZ (by cases d<;>exact ht)
 |NotIn=>
  have hd:∀(k:Key)(a:AI)(kvs:List (Key×D)),v=kV k->w=.ref a->st' a=AA (.dct kvs)->Qd (.bl (!(y0 kvs k).isSome)) st'->ad4 X .NotIn v w H' Q:=λk a kvs e1 e2 e3 ht=>by
   obtain⟨vs,h1,h2⟩:=rs.dct e3;refine .inr ⟨a,k,vs,e1,e2,h1,?_⟩
   rcases h2.look k with⟨l1,l2⟩|⟨d,v,l1,l2,_⟩<;>(rw[l1]at ht;rw[l2];exact hq.here (.bl _) rs ht)
  cases e with
  |tup es=>exact .inl ⟨d,es,i1,i2,ht.1,ht.2.1,ht.2.2.1,hq.here (.bl _) rs ht.2.2.2⟩
  |ref a=>
   cases d<;>first|exact AZ ht|skip
   ·obtain⟨kvs,e,ht⟩:=ht;exact hd (.inl _) a kvs i1.int_inv i2.ref_inv e ht
   ·obtain⟨kvs,e,ht⟩:=ht;exact hd (.inr _) a kvs i1.str_inv i2.ref_inv e ht
  |_=>exact AZ (by cases d<;>exact ht)
 |Is=>exact AZ ht
 |IsNot=>exact AZ ht
def Y9(o:Dn)(b:AS)(h:∀es k p,b≠.Set es k p):CI o b=AG:=by
 cases b<;>first|rfl|exact absurd rfl (h _ _ _)
def cw0(hu:X.A.units+200<Bk)(ha:PE X a (up X.K ta))(hb:PE X b (up X.K tb))(hm:∀es k p,b≠.Set es k p):PE X (.Compare a [o] [b] pos) (up X.K λenv st Q=>ta env st λx st1=>tb env st1 λy st2=>o0 o x y st2 Q):=
 PE.imp (a49 (a55 hu o) ha hb (Y9 o b hm)) λσ H Q q=>up2 (f:=o0 o) q λv w d e H' st' Qd i1 i2 rs ht hq=>bb0 i1 i2 rs ht hq
def cv8(hu:X.A.units+200<Bk)(ha:PE X a (up X.K ta))(hb:PE X b (up X.K tb))(hm:∀es k p,b≠.Set es k p):
  PT X (.Compare a [o] [b] pos) (upB X.K λenv st Q=>ta env st λx st1=>tb env st1 λy st2=>o0 o x y st2 λd st'=>∃k,d=.bl k∧Q k st'):=
 PT.imp (a57 (a55 hu o) ha hb (Y9 o b hm)) λσ H Q q=>by
  obtain⟨env,st,Qd,hE,hS,ht,hq⟩:=q;refine up2 (f:=o0 o) (Q:=λx H'=>∃k,x=.bl k∧Q k H') ⟨env,st,_,hE,hS,ht,λv d H' st' ev is rs q1=>?_⟩ λv w d e H' st' Qd i1 i2 rs ht hq=>bb0 i1 i2 rs ht hq;obtain⟨k,rfl,q1⟩:=q1;exact⟨k,is.bl_inv,hq k H' st' ev rs q1⟩
def cm4{j pos'}(ha:PE X a (up X.K ta)):PE X (.Compare a [.Is] [.Constant .none j pos'] pos) (up X.K λenv st Q=>ta env st λx st1=>(x=.non∧Q (.bl AC) st1)∨(x≠.non∧Q (.bl AG) st1)):=
 PE.imp (bg8 (bb2 ha) rfl) λσ H Q q=>up1 (f:=λx st1 Q=>(x=.non∧Q (.bl AC) st1)∨(x≠.non∧Q (.bl AG) st1)) q λv d H' st' Qd is rs ht hq=>by
  rcases ht with⟨rfl,ht⟩|⟨hn,ht⟩
  ·cases is;exact hq.here (.bl _) rs (by simpa using ht)
  ·have e:AB (v=V.non)=AG:=decide_eq_false λz=>hn (by subst z;cases is;rfl);rw[e];exact hq.here (.bl _) rs ht
def cf3{j pos'}(ha:PE X a (up X.K ta)):PE X (.Compare a [.IsNot] [.Constant .none j pos'] pos) (up X.K λenv st Q=>ta env st λx st1=>(x=.non∧Q (.bl AG) st1)∨(x≠.non∧Q (.bl AC) st1)):=
 PE.imp (bg8 (a81 ha) rfl) λσ H Q q=>up1 (f:=λx st1 Q=>(x=.non∧Q (.bl AG) st1)∨(x≠.non∧Q (.bl AC) st1)) q λv d H' st' Qd is rs ht hq=>by
  rcases ht with⟨rfl,ht⟩|⟨hn,ht⟩
  ·cases is;exact hq.here (.bl _) rs (by simpa using ht)
  ·have e:AB (v=V.non)=AG:=decide_eq_false λz=>hn (by subst z;cases is;rfl);rw[e];exact hq.here (.bl _) rs ht
def bp2{t:TE}{f:DT}(h:PT X x (tB t))(i:∀σ H Q,up X.K f σ H Q->t σ H Q):PT X x (upB X.K λenv st Q=>f env st λd st'=>∃b,d=.bl b∧Q b st'):=PT.imp h λσ H Q q=>by
 obtain⟨env,st,Qd,hE,hS,ht,hq⟩:=q;refine i σ H _ ⟨env,st,_,hE,hS,ht,λv d H' st' ev is rs q=>?_⟩;obtain⟨b,rfl,q⟩:=q;cases is;exact⟨b,rfl,hq b H' st' ev rs q⟩
def ct4{j pos'}(ha:PE X a (up X.K ta)):PT X (.Compare a [.Is] [.Constant .none j pos'] pos) (upB X.K λenv st Q=>ta env st λx st1=>(x=.non∧∃b,D.bl AC=.bl b∧Q b st1)∨(x≠.non∧∃b,D.bl AG=.bl b∧Q b st1)):=
 bp2 (f:=λenv st Q=>ta env st λx st1=>(x=.non∧Q (.bl AC) st1)∨(x≠.non∧Q (.bl AG) st1)) (bh3 (bb2 ha) rfl) λσ H Q q=>up1 (f:=λx st1 Q=>(x=.non∧Q (.bl AC) st1)∨(x≠.non∧Q (.bl AG) st1)) q λv d H' st' Qd is rs ht hq=>by
  rcases ht with⟨rfl,ht⟩|⟨hn,ht⟩
  ·cases is;exact hq.here (.bl _) rs (by simpa using ht)
  ·have e:AB (v=V.non)=AG:=decide_eq_false λz=>hn (by subst z;cases is;rfl);rw[e];exact hq.here (.bl _) rs ht
def cg9{j pos'}(ha:PE X a (up X.K ta)):PT X (.Compare a [.IsNot] [.Constant .none j pos'] pos) (upB X.K λenv st Q=>ta env st λx st1=>(x=.non∧∃b,D.bl AG=.bl b∧Q b st1)∨(x≠.non∧∃b,D.bl AC=.bl b∧Q b st1)):=
 bp2 (f:=λenv st Q=>ta env st λx st1=>(x=.non∧Q (.bl AG) st1)∨(x≠.non∧Q (.bl AC) st1)) (bh3 (a81 ha) rfl) λσ H Q q=>up1 (f:=λx st1 Q=>(x=.non∧Q (.bl AG) st1)∨(x≠.non∧Q (.bl AC) st1)) q λv d H' st' Qd is rs ht hq=>by
  rcases ht with⟨rfl,ht⟩|⟨hn,ht⟩
  ·cases is;exact hq.here (.bl _) rs (by simpa using ht)
  ·have e:AB (v=V.non)=AG:=decide_eq_false λz=>hn (by subst z;cases is;rfl);rw[e];exact hq.here (.bl _) rs ht
noncomputable abbrev tst(t:DT):DB:=λenv st Q=>t env st λd st'=>∃b,d=.bl b∧Q b st'
variable {i5:List AS}
def bf4(ha:PE X a (up X.K ta))(hb:PE X (.BoolOp .And (b::i5) pos) (up X.K tb)):PE X (.BoolOp .And (a::b::i5) pos) (up X.K λenv st Q=>ta env st λx st1=>∃c,x=.bl c∧(if c=AC then tb env st1 Q else Q (.bl AG) st1)):=
 PE.imp (ct8 ha hb) λσ H Q q=>by
  obtain⟨env,st,Qd,hE,hS,ht,hq⟩:=q;refine⟨env,st,_,hE,hS,ht,λv d H1 st1 ev is rs q1=>?_⟩;obtain⟨k,rfl,q1⟩:=q1;refine⟨k,is.bl_inv,?_⟩;cases k with
  |true=>exact⟨env,st1,Qd,hE.mono (ev.tk hS),rs,q1,hq.after ev⟩
  |false=>exact(hq.after ev).here (.bl _) rs q1
def bj7(ha:PE X a (up X.K ta))(hb:PE X (.BoolOp .Or (b::i5) pos) (up X.K tb)):PE X (.BoolOp .Or (a::b::i5) pos) (up X.K λenv st Q=>ta env st λx st1=>∃c,x=.bl c∧(if c=AC then Q (.bl AC) st1 else tb env st1 Q)):=
 PE.imp (cy0 ha hb) λσ H Q q=>by
  obtain⟨env,st,Qd,hE,hS,ht,hq⟩:=q;refine⟨env,st,_,hE,hS,ht,λv d H1 st1 ev is rs q1=>?_⟩;obtain⟨k,rfl,q1⟩:=q1;refine⟨k,is.bl_inv,?_⟩;cases k with
  |false=>exact⟨env,st1,Qd,hE.mono (ev.tk hS),rs,q1,hq.after ev⟩
  |true=>exact(hq.after ev).here (.bl _) rs q1
def cv3(ha:PE X a (up X.K ta)):PE X (.UnaryOp .Not a pos) (up X.K λenv st Q=>ta env st λx st1=>∃c,x=.bl c∧Q (.bl (!c)) st1):=
 PE.imp (cu1 ha) λσ H Q q=>up1 (f:=λx st1 Q=>∃c,x=.bl c∧Q (.bl (!c)) st1) q λv d H' st' Qd is rs ht hq=>by
  obtain⟨c,rfl,ht⟩:=ht;exact⟨c,is.bl_inv,hq.here (.bl _) rs ht⟩
def ba7(ha:PT X a (upB X.K (tst ta)))(hb:PW X (.BoolOp .And (b::i5) pos) (upB X.K (tst tb))):PW X (.BoolOp .And (a::b::i5) pos) (upB X.K (tst λenv st Q=>ta env st λx st1=>∃c,x=.bl c∧(if c=AC then tb env st1 Q else Q (.bl AG) st1))):=
 PW.imp (cq7 ha hb) λσ H Q q=>by
  obtain⟨env,st,Qd,hE,hS,ht,hq⟩:=q;refine⟨env,st,λc st1=>if c=AC then tb env st1 (λd st'=>∃b,d=.bl b∧Qd b st')else ∃b,D.bl AG=.bl b∧Qd b st1,hE,hS,ht,λk H1 st1 ev rs q1=>?_⟩;cases k with
  |true=>
   rw[if_pos rfl]at q1 ⊢;exact⟨env,st1,Qd,hE.mono (ev.tk hS),rs,q1,λc H2 st2 ev2 rs2 q2=>hq c H2 st2 (ev.trans ev2) rs2 q2⟩
  |false=>
   rw[if_neg AH]at q1 ⊢;obtain⟨b,e,q1⟩:=q1;cases e;exact hq AG H1 st1 ev rs q1
def bq4(ha:PT X a (upB X.K (tst ta)))(hb:PW X (.BoolOp .Or (b::i5) pos) (upB X.K (tst tb))):PW X (.BoolOp .Or (a::b::i5) pos) (upB X.K (tst λenv st Q=>ta env st λx st1=>∃c,x=.bl c∧(if c=AC then Q (.bl AC) st1 else tb env st1 Q))):=
 PW.imp (c21 ha hb) λσ H Q q=>by
  obtain⟨env,st,Qd,hE,hS,ht,hq⟩:=q;refine⟨env,st,λc st1=>if c=AC then ∃b,D.bl AC=.bl b∧Qd b st1 else tb env st1 (λd st'=>∃b,d=.bl b∧Qd b st'),hE,hS,ht,λk H1 st1 ev rs q1=>?_⟩;cases k with
  |false=>
   rw[if_neg AH]at q1 ⊢;exact⟨env,st1,Qd,hE.mono (ev.tk hS),rs,q1,λc H2 st2 ev2 rs2 q2=>hq c H2 st2 (ev.trans ev2) rs2 q2⟩
  |true=>
   rw[if_pos rfl]at q1 ⊢;obtain⟨b,e,q1⟩:=q1;cases e;exact hq AC H1 st1 ev rs q1
def cq1(ha:PT X a (upB X.K (tst ta))):PT X (.UnaryOp .Not a pos) (upB X.K (tst λenv st Q=>ta env st λx st1=>∃c,x=.bl c∧Q (.bl (!c)) st1)):=
 PT.imp (co7 ha) λσ H Q q=>by
  obtain⟨env,st,Qd,hE,hS,ht,hq⟩:=q;refine⟨env,st,λc st1=>∃b,D.bl (!c)=.bl b∧Qd b st1,hE,hS,ht,λk H1 st1 ev rs q1=>?_⟩;obtain⟨b,e,q1⟩:=q1;cases e;exact hq _ H1 st1 ev rs q1
def cs2{t1:DT}(hc:PT X c (upB X.K (tst t1)))(ha:PE X a (up X.K ta))(hb:PE X b (up X.K tb)):PE X (.IfExp c a b pos) (up X.K λenv st Q=>t1 env st λx st1=>∃k,x=.bl k∧(if k=AC then ta env st1 Q else tb env st1 Q)):=
 PE.imp (b81 hc ha hb) λσ H Q q=>by
  obtain⟨env,st,Qd,hE,hS,ht,hq⟩:=q;refine⟨env,st,λk st1=>if k=AC then ta env st1 Qd else tb env st1 Qd,hE,hS,ht,λk H1 st1 ev rs q1=>?_⟩;cases k with
  |true=>exact⟨env,st1,Qd,hE.mono (ev.tk hS),rs,q1,hq.after ev⟩
  |false=>exact⟨env,st1,Qd,hE.mono (ev.tk hS),rs,q1,hq.after ev⟩
end
end Ek
namespace Ek
open PySem PySem.Spec PyProof.Rows L2
variable [Tbs]
variable{H:Hp}{ds:List D}{vs:List V}{f y m:Str}{fd:Ba}{ps:List Str}{sp:Spec}{es:List AS}{n:Nat}{Ph:Str->Spec}{apos:Pos}{Ca:AI}
section
variable {X:Cx} {a b c:AS} {ta tb tc:DT} {pos p:Pos}
def be2{K:AO}{i:Int}{d:D}(r:IsDs K H ds vs)(h:atI ds i=AA d):∃v,atI vs i=AA v∧IsD K H d v:=by
 unfold atI at h ⊢;rw[<-r.len];cases e:ixN ds.length i with
 |none=>rw[e]at h;cases h
 |some j=>
  rw[e]at h;exact r.get h
def ah4(h:∀l u s p,b≠.Slice l u s p):a52 b:=λo i=>by
 cases b<;>first|rfl|exact absurd rfl (h _ _ _ _)
noncomputable def c31:R2:=λx y H Q=>∃p k kvs v,x=.ref p∧y=kV k∧H p=AA (.dK kvs)∧o5 kvs k=AA v∧Q v H
def cq2(hu:X.A.units+200<Bk):IxR X c31:=by
 intro value slice pins s σ H x y v u Q I rx ry h hs;obtain⟨p,k,kvs,z,rfl,rfl,hH,hv,q⟩:=h;cases rx;have g:u2 H p (kV k) (AA z):=by rw[<-hv];exact u2.k hH
 have hT:=as5 I g;unfold Fn;refine AD ?_;rw[IM hT.not_modules];refine AD (CA hT PySem.F.slot_dict_getitem.lookup ?_);have fin:AT (model X.prog X.w) X.A (subscripted slice AG (.ref p) u) (λr s₃=>AT (model X.prog X.w) X.A (KZ value (.ref p) r>>=λ_=>pure r) (EP X pins σ Q) X.xe s₃) X.xe s:=by
  rw[hs];refine KF (av5 (by lia) I g ry λw' s3 I3 rw'=>AD (IV (AK ⟨z,H,I3,rw',q⟩)))
 first
  |exact AK (AD fin)
  |exact AD (AK (AD fin))
  |exact AD fin
def cy6(hu:X.A.units+200<Bk)(ha:PE X a (up X.K ta))(hb:PE X b (up X.K tb))(hs:∀l u s p,b≠.Slice l u s p):PE X (.Subscript a b pos) (up X.K λenv st Q=>ta env st λx st1=>tb env st1 λy st2=>ixR x y st2 Q):=
 PE.imp (cx8 (ce8.or (cn7.or ((cq2 hu).or co0))) ha hb (ah4 hs)) λσ H Q q=>up2 (f:=ixR) q λv w d e H' st' Qd i1 i2 rs ht hq=>by
  cases d<;>cases e<;>first|exact AZ ht|skip
  ·obtain⟨c,hl,e1,ht⟩:=ht;exact .inr (.inr (.inr ⟨_,_,c,i1.str_inv,i2.int_inv,hl,e1,hq.here (.str _) rs ht⟩))
  ·obtain⟨d,e1,ht⟩:=ht;obtain⟨p,vs,rfl,hq',r⟩:=i1.tup_inv;obtain⟨v',e2,is⟩:=be2 r e1;exact .inr (.inl ⟨p,vs,_,v',rfl,i2.int_inv,hq',e2,hq.here is rs ht⟩)
  ·rcases ht with⟨ds,d,hr,e1,ht⟩|⟨kvs,d,hr,e1,ht⟩
   ·obtain⟨vs,hq',r⟩:=rs.rd hr;obtain⟨v',e2,is⟩:=be2 r e1;exact .inl ⟨_,vs,_,v',i1.ref_inv,i2.int_inv,hq',e2,hq.here is rs ht⟩
   ·obtain⟨vs,hH,r⟩:=rs.dct hr
    rcases r.look (.inl _)with⟨l1,l2⟩|⟨d',v',l1,l2,is⟩
    ·rw[l1]at e1;cases e1
    ·rw[l1]at e1;cases e1;exact .inr (.inr (.inl ⟨_,.inl _,vs,v',i1.ref_inv,i2.int_inv,hH,l2,hq.here is rs ht⟩))
  ·obtain⟨kvs,d,hr,e1,ht⟩:=ht;obtain⟨vs,hH,r⟩:=rs.dct hr
   rcases r.look (.inr _)with⟨l1,l2⟩|⟨d',v',l1,l2,is⟩
   ·rw[l1]at e1;cases e1
   ·rw[l1]at e1;cases e1;exact .inr (.inr (.inl ⟨_,.inr _,vs,v',i1.ref_inv,i2.str_inv,hH,l2,hq.here is rs ht⟩))
noncomputable abbrev DO:=i9->Sto->(Option Int->Sto->Prop)->Prop
noncomputable def upO(K:AO)(t:DO):TO:=λσ H Q=>∃env st Qd,RelE K H env σ∧RelS K st H∧t env st Qd∧∀o H' st',Ev st H st' H'->RelS K st' H'->Qd o st'->Q o H'
def _root_.L2.PO.imp{X:Cx}{x:Option AS}{t t':TO}(h:PO X x t)(i:∀σ H Q,t' σ H Q->t σ H Q):PO X x t':=λpins s σ H Q I q=>h pins s σ H Q I (i σ H Q q)
def cj8:PO X AE (upO X.K λ_ st k=>k AE st):=PO.imp cd8 λσ H Q q=>by
 obtain⟨env,st,Qd,hE,hS,ht,hq⟩:=q;exact hq AE H st Ev.refl hS ht
def ci2(ha:PE X a (up X.K ta)):PO X (AA a) (upO X.K λenv st k=>ta env st λd st'=>∃i,d=.int i∧k (AA i) st'):=PO.imp (cg4 ha) λσ H Q q=>by
 obtain⟨env,st,Qd,hE,hS,ht,hq⟩:=q;refine⟨env,st,_,hE,hS,ht,λv d H' st' ev is rs q1=>?_⟩;obtain⟨i,rfl,q1⟩:=q1;exact⟨i,is.int_inv,hq _ H' st' ev rs q1⟩
def an0{K:AO}(r:IsDs K H ds vs)(lo hi:Option Int):IsDs K H (z8 ds lo hi) (M9 vs lo hi):=by
 unfold z8 M9;rw[r.len];exact(r.drop _).take _
def c23{lo hi:Option AS}{tl th:DO}{p2:Pos}(ha:PE X a (up X.K ta))(hl:PO X lo (upO X.K tl))(hh:PO X hi (upO X.K th)):
  PE X (.Subscript a (.Slice lo hi AE p2) pos) (up X.K λenv st Q=>ta env st λx st1=>tl env st1 λl st2=>th env st2 λh st3=>slR x l h st3 Q):=
 PE.imp (ay5 (bc1.or ci4) ha hl hh) λσ H Q q=>by
  obtain⟨env,st,Qd,hE,hS,ht,hq⟩:=q;refine⟨env,st,_,hE,hS,ht,λv d H1 st1 ev1 is1 rs1 q1=>⟨env,st1,_,hE.mono (ev1.tk hS),rs1,q1,λl H2 st2 ev2 rs2 q2=>⟨env,st2,_,(hE.mono (ev1.tk hS)).mono (ev2.tk rs1),rs2,q2,λh H3 st3 ev3 rs3 q3=>?_⟩⟩⟩;have is3:=(is1.mono (ev2.tk rs1)).mono (ev3.tk rs2);have hq3:=((hq.after ev1).after ev2).after ev3;cases d<;>first|exact AZ q3|skip
  ·obtain⟨p,vs,rfl,hs,r⟩:=is3.tup_inv;exact .inl ⟨p,vs,rfl,hs,by rw[<-r.len];exact q3.1,hq3.newT rs3 (an0 r l h) q3.2⟩
  ·obtain⟨ds,hr,q3⟩:=q3;obtain⟨vs,hs,r⟩:=rs3.rd hr;exact .inr ⟨_,vs,is3.ref_inv,hs,hq3.newL rs3 (an0 r l h) q3⟩
def F6(ha:PE X a (up X.K ta))(h:∀e p,a≠.Starred e p):PA X [a] (upA X.K 1 λenv st Q=>ta env st λd st1=>Q [d] st1):=Q0 ha bh0 h
def ao7{id:String}{r:List V->Hp->VK->Prop}{g:D->Sto->DK->Prop}(hc:E4 X (.builtin id) r)(hg:Gl X f)(hm:X.mg f=AE)(hv:BA f=AA (.builtin id))(ha:PE X a (up X.K ta))(hs:∀e p,a≠.Starred e p)
  (imp:∀v d H' st' Qd Q,IsD X.K H' d v->RelS X.K st' H'->g d st' Qd->t3 X.K st' H' Qd Q->r [v] H' Q) (hn:f≠"__name__") (hdb:(f==("__debug__":Str))=AG) :
  PE X (.Call (.Name f p) [a] [] pos) (up X.K λenv st Q=>ta env st λx st1=>g x st1 Q):=
 PE.imp (aj2 hc hg hm hv (F6 ha hs) hn hdb (l7 hs) rfl) λσ H Q q=>by
  obtain⟨env,st,Qd,hE,hS,ht,hq⟩:=q;refine⟨env,st,(λds st1=>match ds with|[d]=>g d st1 Qd|_=>False),hE,hS,ht,λvs ds H' st' ev is hl rs q1=>?_⟩
  match ds,hl with
  |[d],_=>
   obtain⟨v,ws,rfl,i1,i2⟩:=is.inv_cons;rw[i2.inv_nil];exact imp v d H' st' Qd Q i1 rs q1 (hq.after ev)
def an8{T:String}{r:List V->Hp->VK->Prop}{g:D->Sto->DK->Prop}(hc:E4 X (.type T) r)(hg:Gl X f)(hm:X.mg f=AE)(hv:BA f=AA (.type T))(ha:PE X a (up X.K ta))(hs:∀e p,a≠.Starred e p)
  (imp:∀v d H' st' Qd Q,IsD X.K H' d v->RelS X.K st' H'->g d st' Qd->t3 X.K st' H' Qd Q->r [v] H' Q) (hn:f≠"__name__") (hdb:(f==("__debug__":Str))=AG) :
  PE X (.Call (.Name f p) [a] [] pos) (up X.K λenv st Q=>ta env st λx st1=>g x st1 Q):=
 PE.imp (b52 hc hg hm hv (F6 ha hs) hn hdb (l7 hs) rfl) λσ H Q q=>by
  obtain⟨env,st,Qd,hE,hS,ht,hq⟩:=q;refine⟨env,st,(λds st1=>match ds with|[d]=>g d st1 Qd|_=>False),hE,hS,ht,λvs ds H' st' ev is hl rs q1=>?_⟩
  match ds,hl with
  |[d],_=>
   obtain⟨v,ws,rfl,i1,i2⟩:=is.inv_cons;rw[i2.inv_nil];exact imp v d H' st' Qd Q i1 rs q1 (hq.after ev)
def cb6:BA "abs"=AA (.builtin "abs"):=by decide+kernel
def b69:BA "max"=AA (.builtin "max"):=by decide+kernel
def b66:BA "sum"=AA (.builtin "sum"):=by decide+kernel
def bx9:BA "isinstance"=AA (.builtin "isinstance"):=by decide+kernel
def b58:BA "int"=AA (.type "int"):=by decide+kernel
def bz3:BA "list"=AA (.type "list"):=by decide+kernel
def bx7:BA "tuple"=AA (.type "tuple"):=by decide+kernel
def cr4(hg:Gl X "len")(hm:X.mg "len"=AE)(ha:PE X a (up X.K ta))(hs:∀e p,a≠.Starred e p):PE X (.Call (.Name "len" p) [a] [] pos) (up X.K λenv st Q=>ta env st λx st1=>P3 x st1 Q):=
 ao7 bw8 hg hm PySem.boot_len ha hs (λv d H' st' Qd Q is rs ht hq=>by
  cases d<;>first|exact AZ ht|skip
  ·obtain⟨p,vs,rfl,hs,r⟩:=is.tup_inv;exact⟨p,vs,rfl,.inr hs,by rw[<-r.len];exact hq.here (.int _) rs ht⟩
  ·obtain⟨ds,hr,ht⟩:=ht;obtain⟨vs,hs,r⟩:=rs.rd hr;exact⟨_,vs,by rw[is.ref_inv],.inl hs,by rw[<-r.len];exact hq.here (.int _) rs ht⟩) (by decide) (by decide)
def ct1(hg:Gl X "abs")(hm:X.mg "abs"=AE)(ha:PE X a (up X.K ta))(hs:∀e p,a≠.Starred e p):PE X (.Call (.Name "abs" p) [a] [] pos) (up X.K λenv st Q=>ta env st λx st1=>∃i,x=.int i∧Q (.int (if i<0 then -i else i)) st1):=
 ao7 (g:=λx st1 Q=>∃i,x=.int i∧Q (.int (if i<0 then -i else i)) st1) b59 hg hm cb6 ha hs (λv d H' st' Qd Q is rs ht hq=>by
  obtain⟨i,rfl,ht⟩:=ht;exact⟨i,by rw[is.int_inv],hq.here (.int _) rs ht⟩) (by decide) (by decide)
def cb1(hg:Gl X "int")(hm:X.mg "int"=AE)(ha:PE X a (up X.K ta))(hs:∀e p,a≠.Starred e p):PE X (.Call (.Name "int" p) [a] [] pos) (up X.K λenv st Q=>ta env st λx st1=>V9 x st1 Q):=
 an8 b46 hg hm b58 ha hs (λv d H' st' Qd Q is rs ht hq=>by
  cases d<;>first|exact AZ ht|skip
  ·exact .inr ⟨_,by rw[is.bl_inv],hq.here (.int _) rs ht⟩
  ·exact .inl ⟨_,by rw[is.int_inv],hq.here (.int _) rs ht⟩) (by decide) (by decide)
def cn5(hc:X.calm=AC)(hg:Gl X "sum")(hm:X.mg "sum"=AE)(ha:PE X a (up X.K ta))(hs:∀e p,a≠.Starred e p):PE X (.Call (.Name "sum" p) [a] [] pos) (up X.K λenv st Q=>ta env st λx st1=>ac4 x st1 Q):=
 ao7 (b18 hc) hg hm b66 ha hs (λv d H' st' Qd Q is rs ht hq=>by
  cases d<;>first|exact AZ ht|skip
  obtain⟨ns,hr,ht⟩:=ht;obtain⟨vs,hs,r⟩:=rs.rd hr;exact⟨_,ns,by rw[is.ref_inv],by rw[<-r.ints];exact hs,hq.here (.int _) rs ht⟩) (by decide) (by decide)
def ck5(hg:Gl X "list")(hm:X.mg "list"=AE)(ha:PE X a (up X.K ta))(hs:∀e p,a≠.Starred e p):PE X (.Call (.Name "list" p) [a] [] pos) (up X.K λenv st Q=>ta env st λx st1=>ab7 x st1 Q):=
 an8 bw5 hg hm bz3 ha hs (λv d H' st' Qd Q is rs ht hq=>by
  cases d<;>first|exact AZ ht|skip
  ·obtain⟨p,vs,rfl,hs,r⟩:=is.tup_inv;exact⟨p,vs,rfl,.inr hs,hq.newL rs r ht⟩
  ·obtain⟨ds,hr,ht⟩:=ht;obtain⟨vs,hs,r⟩:=rs.rd hr;exact⟨_,vs,by rw[is.ref_inv],.inl hs,hq.newL rs r ht⟩) (by decide) (by decide)
def b60(hg:Gl X "tuple")(hm:X.mg "tuple"=AE)(ha:PE X a (up X.K ta))(hs:∀e p,a≠.Starred e p):PE X (.Call (.Name "tuple" p) [a] [] pos) (up X.K λenv st Q=>ta env st λx st1=>Q5 x st1 Q):=
 an8 bw1 hg hm bx7 ha hs (λv d H' st' Qd Q is rs ht hq=>by
  cases d<;>first|exact AZ ht|skip
  ·obtain⟨p,vs,rfl,hs,r⟩:=is.tup_inv;exact⟨p,vs,rfl,.inr ⟨hs,hq.here is rs ht⟩⟩
  ·obtain⟨ds,hr,ht⟩:=ht;obtain⟨vs,hs,r⟩:=rs.rd hr;exact⟨_,vs,by rw[is.ref_inv],.inl ⟨hs,hq.newT rs r ht⟩⟩) (by decide) (by decide)
def bj1(ha:PE X a (up X.K ta))(hb:PE X b (up X.K tb))(h:∀e p,a≠.Starred e p)(h':∀e p,b≠.Starred e p):PA X [a,b] (upA X.K 2 λenv st Q=>ta env st λd st1=>tb env st1 λe st2=>Q [d,e] st2):=Q0 ha (F6 hb h') h
def cu7(hc:X.calm=AC)(hg:Gl X "max")(hm:X.mg "max"=AE)(ha:PE X a (up X.K ta))(hb:PE X b (up X.K tb))(hs:∀e p,a≠.Starred e p)(hs':∀e p,b≠.Starred e p):
  PE X (.Call (.Name "max" p) [a,b] [] pos) (up X.K λenv st Q=>ta env st λx st1=>tb env st1 λy st2=>∃i j,x=.int i∧y=.int j∧Q (.int (if j>i then j else i)) st2):=
 PE.imp (aj2 (b44 hc) hg hm b69 (bj1 ha hb hs hs') (by decide) (by decide) (l7 hs) (by rw[l7 hs'];rfl)) λσ H Q q=>by
  obtain⟨env,st,Qd,hE,hS,ht,hq⟩:=q;refine⟨env,st,(λds st1=>match ds with|[x,y]=>∃i j,x=.int i∧y=.int j∧Qd (.int (if j>i then j else i)) st1|_=>False),hE,hS,ht,λvs ds H' st' ev is hl rs q1=>?_⟩
  match ds,hl with
  |[d,e],_=>
   obtain⟨v,ws,rfl,i1,i2⟩:=is.inv_cons;obtain⟨w,ws',rfl,i3,i4⟩:=i2.inv_cons;rw[i4.inv_nil];obtain⟨i,j,rfl,rfl,q1⟩:=q1;exact⟨i,j,by rw[i1.int_inv,i3.int_inv],(hq.after ev).here (.int _) rs q1⟩
noncomputable def L8:List String:=["tuple","int","bool","str","list"]
def bi0(K:AO):∀t∈L8,∀ty∈["NoneType","bool","int","str","tuple","list"],EQ K (.type ty) (.type t)=AA (ty==t||(ty=="bool"&&t=="int")):=by
 intro t ht ty hty;simp only[L8,AM,Ae,or_false]at ht hty
 rcases ht with rfl|rfl|rfl|rfl|rfl<;>rcases hty with rfl|rfl|rfl|rfl|rfl|rfl<;>first|rfl|(unfold EQ;rfl)|(unfold EQ;first|(rw[if_pos (by decide)];rfl)|(rw[if_neg (by decide)];decide+kernel))
def cv6{p2:Pos}{t:String}(hin:t∈L8)(hg:Gl X "isinstance")(hm:X.mg "isinstance"=AE)(hg2:Gl X f)(hm2:X.mg f=AE)(hboot:BA f=AA (.type t))(hn:f≠"__name__")(hdb:(f==("__debug__":Str))=AG)(ha:PE X a (up X.K ta))(hs:∀e p,a≠.Starred e p):
  PE X (.Call (.Name "isinstance" p) [a,.Name f p2] [] pos) (up X.K λenv st Q=>ta env st λx st1=>ab6 t x st1 Q):=by
 intro pins s σ H Q I q;obtain⟨env,st,Qd,hE,hS,ht,hq⟩:=q;have arg:PA X [a,.Name f p2] (ap0 (up X.K ta) (ap0 (tC (.ty t)) ar2)):=ak8 ha (ak8 (ce0 (v:=.ty t) hg2 hm2 hboot rfl hn hdb) bh2 rfl) (l7 hs);refine aj2 (r:=λvs H Q=>(∃x ty b,vs=[x,.ty t]∧TyOf X.K H x ty∧EQ X.K ty (.type t)=AA b∧Q (.bl b) H)∨∃q' xs b,vs=[.ref q',.ty t]∧SqT X.K H q' xs∧EQ X.K (.type "tuple") (.type t)=AA b∧Q (.bl b) H) ?_ hg hm bx9 arg (by decide) (by decide) (l7 hs) rfl pins s σ H Q I ?_
 ·intro pins s σ H vs us Q I r h
  rcases h with⟨x,ty,b,rfl,h1,h2,q⟩|⟨q',xs,b,rfl,h1,h2,q⟩
  ·obtain⟨u,v,rfl,ru,rv⟩:=r.two;cases rv;exact b12 I ru h1 h2 λtk=>⟨.bl b,H,I.tok _,rfl,q⟩
  ·obtain⟨u,v,rfl,ru,rv⟩:=r.two;cases rv;cases ru;obtain⟨its,_,⟨o,e1,e2,_⟩,_⟩:=I.tupleD h1;exact CW KS I.kIn ⟨o,e1,e2⟩ h2 (λz=>nomatch z) λtk=>⟨.bl b,H,I.tok _,rfl,q⟩
 ·refine⟨env,st,_,hE,hS,ht,λv d H' st' ev is rs q1=>?_⟩;have fin:∀ty:String,ty∈["NoneType","bool","int","str","tuple","list"]->TyOf X.K H' v (.type ty)->Qd (.bl (ty==t||(ty=="bool"&&t=="int"))) st'->(∃x ty b,[v,V.ty t]=[x,.ty t]∧TyOf X.K H' x ty∧EQ X.K ty (.type t)=AA b∧Q (.bl b) H')∨∃q' xs b,[v,V.ty t]=[.ref q',.ty t]∧SqT X.K H' q' xs∧EQ X.K (.type "tuple") (.type t)=AA b∧Q (.bl b) H':=λty hty h1 h2=>.inl ⟨v,.type ty,_,rfl,h1,bi0 X.K t hin ty hty,(hq.after ev).here (.bl _) rs h2⟩
  rcases q1 with⟨ty,e,q1⟩|⟨b,ds,rfl,hr,q1⟩
  ·cases d<;>first|(simp[tyD]at e;done)|skip
   all_goals (simp only[tyD,Bo]at e;subst e)
   ·cases is;exact fin "NoneType" (by simp) .non q1
   ·cases is;exact fin "bool" (by simp) (.bl _) q1
   ·cases is;exact fin "int" (by simp) (.int _) q1
   ·cases is;exact fin "str" (by simp) (.str _) q1
   ·obtain⟨q',vs,rfl,hq',r⟩:=is.tup_inv;exact .inr ⟨q',vs,_,rfl,hq',bi0 X.K t hin "tuple" (by simp),(hq.after ev).here (.bl _) rs q1⟩
  ·obtain⟨vs,hs',r⟩:=rs.rdR hr;rw[is.ref_inv];have q2:Qd (.bl ("list"==t||("list"=="bool"&&t=="int"))) st':=by
    have e:("list"==t||("list"=="bool"&&t=="int"))=(t=="list"):=by simp only[L8,AM,Ae,or_false]at hin;rcases hin with rfl|rfl|rfl|rfl|rfl<;>decide
    rw[e];exact q1
   rw[is.ref_inv]at fin
   rcases hs' with h|⟨o,h⟩
   ·exact fin "list" (by simp) (.lst h) q2
   ·exact fin "list" (by simp) (.frz h) q2
noncomputable def y3(K:AO)(sp:Spec):Sp:=λvs H Q _=>∃ds st Qd,IsDs K H ds vs∧RelS K st H∧sp ds st Qd∧t3 K st H Qd Q
def cd4{f:Str}{k:Nat}{fa:AI}{t:DA}(F:FnOk X.prog X.w X.K X.mg X.base CX0 k fa fd ps (y3 X.K sp))(hr:Room k X.A)(hg:Gl X f)(hm:X.mg f=AA (.ref fa))(hk:Bh X.K (.ref fa)=AC)
  (hb:p8 X.K fd ps []) (ha:PA X (a::es) (upA X.K n t)) (hdb:(f==("__debug__":Str))=AG) (hs:∀e p,a≠.Starred e p) (hpl:(Bm pos (Ak es X.env)).any (·.1)=AG) :
  PE X (.Call (.Name f p) (a::es) [] pos) (up X.K λenv st Q=>t env st λds st1=>sp ds st1 Q):=
 PE.imp (ck4 F hr hg hm hk hb .nil J7 ha hdb (l7 hs) hpl) λσ H Q q=>ar0 (f:=sp) q λvs ds H' st' Qd is hl rs ht hq=>⟨ds,st',Qd,by rw[BP];exact is,rs,ht,hq⟩
def cy2{fa:AI}(hg:Gl X f)(hm:X.mg f=AA (.ref fa))(hns:Aw X.K AN f=AA (AA (.ref fa)))(hdb:(f==("__debug__":Str))=AG):PE X (.Name f p) (up X.K λ_ st Q=>Q (.fn f) st):=
 PE.imp (a53 (v:=.ref fa) hg hm rfl hdb) λσ H Q q=>by
  obtain⟨env,st,Qd,hE,hS,ht,hq⟩:=q;exact hq.here (.fn hns) hS ht
noncomputable def X0(K:AO)(f:AI)(fd:Ba)(np:Nat)(N:List Str)(cs:List D)(sp:Spec):Sp:=λvs H Q _=>∃us ds st Qd,CloR H f fd np N us∧IsDs K H cs us∧IsDs K H ds vs∧RelS K st H∧sp ds st Qd∧t3 K st H Qd Q
def CloR.fnAt{f:AI}{np:Nat}{N:List Str}{us:List V}(h:CloR H f fd np N us)(I:Inv X pins σ H s):W.FnAt f s.heap:=by
 obtain⟨o,u,e1,_,e3⟩:=h.ex;obtain⟨h1,_⟩:=I.hok f _ e1;obtain⟨oc,od,da,sl⟩:=o;have e3':da=.func fd:=e3;subst e3';exact⟨oc,od,fd,sl,h1⟩
def b78{i:Nat}{x:Str}{t:DA}{Z:Sg}(hN:X.N[i]?=AA x)(hv:Vis X.env.scope x)(hd:(x==("__debug__":Str))=AG)(hcd:(x==("__classdict__":Str))=AG)
  (hF:∀f fa,Z.F f=AC->Aw X.K AN f=AA (AA (.ref fa))->∃k fd ps,FnOk X.prog X.w X.K X.mg X.base CX0 k fa fd ps (y3 X.K (Z.Phi f))∧Room k X.A∧Bh X.K (.ref fa)=AC∧p8 X.K fd ps [])
  (hC:∀np N b cs fa fd ps,CloF fd np N ps b->∃k,FnOk X.prog X.w X.K X.mg X.base CX0 k fa fd ps (X0 X.K fa fd np N cs (Z.PhiC np N b cs))∧Room k X.A)
  (ha:PA X (a::es) (upA X.K n t)) (hs:∀e p,a≠.Starred e p) (hpl:(Bm pos (Ak es X.env)).any (·.1)=AG) :
  PE X (.Call (.Name x p) (a::es) [] pos) (up X.K λenv st Q=>∃x,env[i]?=AA (AA x)∧S7 Z (t env) st Q x):=by
 intro pins s σ H Q I q;obtain⟨env,st,Qd,hE,hS,⟨d,he,hc⟩,hq⟩:=q;obtain⟨v,hv1,isv⟩:=hE.at' i _ he;cases d with
 |fn f=>
  obtain⟨hf,ht⟩:Z.F f=AC∧t env st λds st1=>Z.Phi f ds st1 Qd:=hc;obtain⟨fa,rfl,hns⟩:∃fa,v=.ref fa∧Aw X.K AN f=AA (AA (.ref fa)):=by cases isv with|fn h=>exact⟨_,rfl,h⟩
  obtain⟨k,fd,ps,Fo,hr,hk,hb⟩:=hF f fa hf hns;refine Bw (thn (an3 hN hv hd hcd pins s σ H (λv H1=>v=.ref fa∧H1=H) I ⟨_,hv1,rfl,rfl⟩) λu s1⟨v,H1,I1,r1,e1,e2⟩=>?_);subst e1 e2;cases r1;refine Dl (h₀:=X.base) I1.ok.mod.kin hk (thn (ha pos pins s1 σ H1 (λvs H2=>∃ds st1,Ev st H1 st1 H2∧IsDs X.K H2 ds vs∧RelS X.K st1 H2∧Z.Phi f ds st1 Qd) I1 ⟨env,st,_,hE,hS,ht,λvs ds H' st' ev is hl rs q=>⟨ds,st',ev,is,rs,q⟩⟩) λus s2⟨vs,H2,I2,r,ds,st1,ev,is,rs,q⟩=>⟨I2.kIn,?_⟩) (l7 hs) hpl;exact O1 Fo hr hb .nil J7 I2 r ⟨ds,st1,Qd,by rw[BP];exact is,rs,q,hq.after ev⟩
 |clo np N b cs=>
  have ht:t env st λds st1=>Z.PhiC np N b cs ds st1 Qd:=hc;obtain⟨fa,us0,rfl,ca,ics⟩:∃fa us,v=.ref fa∧W4 H fa np N b us∧IsDs X.K H cs us:=by cases isv with|clo h1 h2 h3=>exact⟨_,_,rfl,h1,h2,h3⟩
  obtain⟨fd,ps,cf,cr⟩:=ca;obtain⟨k,Fo,hr⟩:=hC np N b cs fa fd ps cf;refine Bw (thn (an3 hN hv hd hcd pins s σ H (λv H1=>v=.ref fa∧H1=H) I ⟨_,hv1,rfl,rfl⟩) λu s1⟨v,H1,I1,r1,e1,e2⟩=>?_);subst e1 e2;cases r1;refine W.callWith_F (cr.fnAt I1) (thn (ha pos pins s1 σ H1 (λvs H2=>∃ds st1,Ev st H1 st1 H2∧IsDs X.K H2 ds vs∧RelS X.K st1 H2∧Z.PhiC np N b cs ds st1 Qd) I1 ⟨env,st,_,hE,hS,ht,λvs ds H' st' ev is hl rs q=>⟨ds,st',ev,is,rs,q⟩⟩) λus s2⟨vs,H2,I2,r,ds,st1,ev,is,rs,q⟩=>⟨(cr.mono (K:=X.K) (ev.tk hS)).fnAt I2,?_⟩) (l7 hs) hpl;exact O1 Fo hr (.all cf.bind) .nil J7 I2 r ⟨us0,ds,st1,Qd,cr.mono (K:=X.K) (ev.tk hS),ics.mono (ev.tk hS),by rw[BP];exact is,rs,q,hq.after ev⟩
 |_=>exact(hc:False).elim
def b63{ca cb:AS}{cp:Pos}{t:DA}{tf:DT}{F:Str->Bool}(hf:PE X (.Subscript ca cb cp) (up X.K tf))
  (hF:∀f fa,F f=AC->Aw X.K AN f=AA (AA (.ref fa))->∃k fd ps,FnOk X.prog X.w X.K X.mg X.base CX0 k fa fd ps (y3 X.K (Ph f))∧Room k X.A∧Bh X.K (.ref fa)=AC∧p8 X.K fd ps [])
  (ha:PA X (a::es) (upA X.K n t)) (hs:∀e p,a≠.Starred e p) (hpl:(Bm pos (Ak es X.env)).any (·.1)=AG) :
  PE X (.Call (.Subscript ca cb cp) (a::es) [] pos) (up X.K λenv st Q=>tf env st λx st1=>∃f,x=.fn f∧F f=AC∧t env st1 λds st2=>Ph f ds st2 Q):=by
 intro pins s σ H Q I q;obtain⟨env,st,Qd,hE,hS,ht,hq⟩:=q;have e:eval (.Call (.Subscript ca cb cp) (a::es) [] pos) X.env=(do
  callWith pos (<-eval (.Subscript ca cb cp) X.env) [] (Bm pos (Ak (a::es) X.env)) (Ee pos (DE [] X.env))):=rfl
 rw[e];refine AD (thn (hf pins s σ H (λv H1=>∃d st1,Ev st H st1 H1∧IsD X.K H1 d v∧RelS X.K st1 H1∧∃f,d=.fn f∧F f=AC∧t env st1 λds st2=>Ph f ds st2 Qd) I ⟨env,st,_,hE,hS,ht,λv d H' st' ev is rs q=>⟨d,st',ev,is,rs,q⟩⟩) λu s1⟨v,H1,I1,r1,d,st1,ev1,isd,rs1,f,e1,hf1,ht1⟩=>?_);subst e1;obtain⟨fa,rfl,hns⟩:∃fa,v=.ref fa∧Aw X.K AN f=AA (AA (.ref fa)):=by cases isd with|fn h=>exact⟨_,rfl,h⟩
 obtain⟨k,fd,ps,Fo,hr,hk,hb⟩:=hF f fa hf1 hns;cases r1;refine Dl (h₀:=X.base) I1.ok.mod.kin hk (thn (ha pos pins s1 σ H1 (λvs H2=>∃ds st2,Ev st1 H1 st2 H2∧IsDs X.K H2 ds vs∧RelS X.K st2 H2∧Ph f ds st2 Qd) I1 ⟨env,st1,_,hE.mono (ev1.tk hS),rs1,ht1,λvs ds H' st' ev is hl rs q=>⟨ds,st',ev,is,rs,q⟩⟩) λus s2⟨vs,H2,I2,r,ds,st2,ev,is,rs,q⟩=>⟨I2.kIn,?_⟩) (l7 hs) hpl;exact O1 Fo hr hb .nil J7 I2 r ⟨ds,st2,Qd,by rw[BP];exact is,rs,q,hq.after (ev1.trans ev)⟩
def A8{o:AS}{nm:Str}{env:Env}{w:Sem AF}(h:∀i p p',o≠.Call (.Name i p) [] [] p'):Cc o nm env w=w:=by
 unfold Cc
 split
 ·exact absurd rfl (h _ _ _)
 ·rfl
def cp4{f:Str}{C:Str->List Str}(hC:∀c Ca,Aw X.K AN c=AA (AA (.ref Ca))->f∈C c->Cls X.K Ca∧F7 X.K Ca f)(ha:PE X a (up X.K ta))(hbase:Cc a f X.env (eval a X.env)=eval a X.env):
  PE X (.Attribute a f pos) (up X.K λenv st Q=>ta env st λx st1=>∃p c fs d,x=.ref p∧st1 p=AA (.ins c fs)∧f∈C c∧fs.lookup f=AA d∧Q d st1):=
 PE.imp (cp5 ha hbase) λσ H Q q=>up1 (f:=λx st1 Q=>∃p c fs d,x=.ref p∧st1 p=AA (.ins c fs)∧f∈C c∧fs.lookup f=AA d∧Q d st1) q λv d H' st' Qd is rs ht hq=>by
  obtain⟨p,c,fs,e,rfl,hs,hf,hl,ht⟩:=ht;obtain⟨Ca,dx,vs,hH,hn,r⟩:=rs.ins hs;obtain⟨c1,c2⟩:=hC c Ca hn hf
  rcases r.look f with⟨l1,_⟩|⟨d',v',l1,l2,is'⟩
  ·rw[l1]at hl;cases hl
  ·rw[l1]at hl;cases hl;exact⟨p,Ca,dx,vs,v',is.ref_inv,hH,c1,c2,l2,hq.here is' rs ht⟩
def ak9{py pos:Pos}{args:List AS}{env:Env}(hfew:EF (args.length+0) (Bm pos (Ak args env)) (Ee pos (DE [] env))=AC)(hline:(apos.endLine==pos.line)=AC):
  eval (.Call (.Attribute (.Name y py) m apos) args [] pos) env=(do
   let ov <-eval (.Name y py) env
   Gr apos.atName
   let(f,first) <-holding [ov] (Ji ov m (do return (<-importBound (.Name y py) env).getD AC))
   callWith pos f first (Bm pos (Ak args env)) (Ee pos (DE [] env))):=by
 rw[arm_eval_Call,A8 (by intros;exact nofun)]
 congr 1
 funext ov
 congr 1
 funext _
 unfold methodCall;simp only[BQ]at hfew ⊢;rw[hfew];unfold methodCallPos calleeOf;simp only[hline,FA,FC,if_true];rfl
def ch9{py:Pos}{t:DA}{F:Str->Bool}
  (hM:∀c Ca,Aw X.K AN c=AA (AA (.ref Ca))->F (c7 c m)=AC->∃k f fd ps,Cls X.K Ca∧Meth X.K Ca m f∧FnOk X.prog X.w X.K X.mg X.base CX0 k f fd ps (y3 X.K (Ph (c7 c m)))∧Room k X.A∧p8 X.K fd ps [])
  (hfew:EF ((a::es).length+0) (Bm pos (Ak (a::es) X.env)) (Ee pos (DE [] X.env))=AC) (hline:(apos.endLine==pos.line)=AC) (ho:PE X (.Name y py) (up X.K ta)) (ha:PA X (a::es) (upA X.K n t)) (hs:∀e p,a≠.Starred e p) (hpl:(Bm pos (Ak es X.env)).any (·.1)=AG) :
  PE X (.Call (.Attribute (.Name y py) m apos) (a::es) [] pos) (up X.K λenv st Q=>ta env st λx st1=>∃p c fs,x=.ref p∧st1 p=AA (.ins c fs)∧fs.lookup m=AE∧F (c7 c m)=AC∧t env st1 λds st2=>Ph (c7 c m) (.ref p::ds) st2 Q):=by
 intro pins s σ H Q I q;obtain⟨env,st,Qd,hE,hS,ht,hq⟩:=q;refine Gb (thn (ho pins s σ H (λv H1=>∃p c fs st1,v=.ref p∧Ev st H st1 H1∧RelS X.K st1 H1∧st1 p=AA (.ins c fs)∧fs.lookup m=AE∧F (c7 c m)=AC∧t env st1 λds st2=>Ph (c7 c m) (.ref p::ds) st2 Qd) I ⟨env,st,_,hE,hS,ht,λv d H1 st1 ev is rs q1=>?_⟩) λu s1⟨v,H1,I1,rx,p,c,fs,st1,ev,e1,rs,h1,h2,h3,h4⟩=>?_) (ak9 hfew hline)
 ·obtain⟨p,c,fs,rfl,q1⟩:=q1;exact⟨p,c,fs,st1,is.ref_inv,ev,rs,q1⟩
 subst ev;cases rx;obtain⟨Ca,dx,vs,hH,hn,r⟩:=rs.ins h1;obtain⟨k,f,fd,ps,cl,me,Fo,hr,hb⟩:=hM c Ca hn h3;have hl:vs.lookup m=AE:=by
  rcases r.look m with⟨_,l2⟩|⟨d',v',l1,_,_⟩
  ·exact l2
  ·rw[h2]at l1;cases l1
 refine ah5 I1 hH cl me hl ?_;refine Dl (first:=[.ref p]) (h₀:=X.base) I.ok.mod.kin me.kp (thn (ha pos pins s1 σ H1 (λvs H2=>∃ds st2,Ev st1 H1 st2 H2∧IsDs X.K H2 ds vs∧RelS X.K st2 H2∧Ph (c7 c m) (.ref p::ds) st2 Qd) I1 ⟨env,st1,_,hE.mono (e1.tk hS),rs,h4,λvs ds H' st' ev is hl rs q=>⟨ds,st',ev,is,rs,q⟩⟩) λus s2⟨vs,H2,I2,r2,ds,st2,ev2,is2,rs2,q2⟩=>⟨I2.kIn,?_⟩) (l7 hs) hpl;exact O1 (us:=.ref p::us) (vs:=.ref p::vs) Fo hr hb .nil J7 I2 (.cons rfl r2) ⟨.ref p::ds,st2,Qd,by rw[BP];exact .cons (.ref p) is2,rs2,q2,(hq.after e1).after ev2⟩
def b64{C:Str->List Str}{py:Pos}{t:DA}{F:Str->Bool}
  (hM:∀c Ca i,Aw X.K AN c=AA (AA (.ref Ca))->F (c7 c m)=AC->A7 C (c7 c m)=AA i->∃k f fd ps tk,Cls X.K Ca∧Meth X.K Ca m f∧FnOk X.prog X.w X.K X.mg X.base CX0 k f fd ps (y3 X.K (Ph (c7 c m)))∧Room k X.A∧p8 X.K fd ps [.int i tk])
  (hfew:EF ((a::es).length+0) (Bm pos (Ak (a::es) X.env)) (Ee pos (DE [] X.env))=AC) (hline:(apos.endLine==pos.line)=AC) (ho:PE X (.Name y py) (up X.K ta)) (ha:PA X (a::es) (upA X.K n t)) (hs:∀e p,a≠.Starred e p) (hpl:(Bm pos (Ak es X.env)).any (·.1)=AG) :
  PE X (.Call (.Attribute (.Name y py) m apos) (a::es) [] pos) (up X.K λenv st Q=>ta env st λx st1=>∃p c fs i,x=.ref p∧st1 p=AA (.ins c fs)∧fs.lookup m=AE∧F (c7 c m)=AC∧A7 C (c7 c m)=AA i∧t env st1 λds st2=>Ph (c7 c m) (.ref p::(ds++[.int i])) st2 Q):=by
 intro pins s σ H Q I q;obtain⟨env,st,Qd,hE,hS,ht,hq⟩:=q;refine Gb (thn (ho pins s σ H (λv H1=>∃p c fs i st1,v=.ref p∧Ev st H st1 H1∧RelS X.K st1 H1∧st1 p=AA (.ins c fs)∧fs.lookup m=AE∧F (c7 c m)=AC∧A7 C (c7 c m)=AA i∧t env st1 λds st2=>Ph (c7 c m) (.ref p::(ds++[.int i])) st2 Qd) I ⟨env,st,_,hE,hS,ht,λv d H1 st1 ev is rs q1=>?_⟩) λu s1⟨v,H1,I1,rx,p,c,fs,i,st1,ev,e1,rs,h1,h2,h3,h5,h4⟩=>?_) (ak9 hfew hline)
 ·obtain⟨p,c,fs,i,rfl,q1⟩:=q1;exact⟨p,c,fs,i,st1,is.ref_inv,ev,rs,q1⟩
 subst ev;cases rx;obtain⟨Ca,dx,vs,hH,hn,r⟩:=rs.ins h1;obtain⟨k,f,fd,ps,tk,cl,me,Fo,hr,hb⟩:=hM c Ca i hn h3 h5;have hl:vs.lookup m=AE:=by
  rcases r.look m with⟨_,l2⟩|⟨d',v',l1,_,_⟩
  ·exact l2
  ·rw[h2]at l1;cases l1
 refine ah5 I1 hH cl me hl ?_;refine Dl (first:=[.ref p]) (h₀:=X.base) I.ok.mod.kin me.kp (thn (ha pos pins s1 σ H1 (λvs H2=>∃ds st2,Ev st1 H1 st2 H2∧IsDs X.K H2 ds vs∧RelS X.K st2 H2∧Ph (c7 c m) (.ref p::(ds++[.int i])) st2 Qd) I1 ⟨env,st1,_,hE.mono (e1.tk hS),rs,h4,λvs ds H' st' ev is hl rs q=>⟨ds,st',ev,is,rs,q⟩⟩) λus s2⟨vs,H2,I2,r2,ds,st2,ev2,is2,rs2,q2⟩=>⟨I2.kIn,?_⟩) (l7 hs) hpl;exact O1 (us:=.ref p::us) (vs:=.ref p::vs) Fo hr hb (dvs:=[.int i]) (.cons ⟨_,rfl⟩ .nil) J7 I2 (.cons rfl r2) ⟨.ref p::(ds++[.int i]),st2,Qd,.cons (.ref p) (is2.append (.cons (.int i) .nil)),rs2,q2,(hq.after e1).after ev2⟩
def ca8{py:Pos}{F:Str->Bool}
  (hM:∀c Ca,Aw X.K AN c=AA (AA (.ref Ca))->F (c7 c m)=AC->∃k f fd ps,Cls X.K Ca∧Meth X.K Ca m f∧FnOk X.prog X.w X.K X.mg X.base CX0 k f fd ps (y3 X.K (Ph (c7 c m)))∧Room k X.A∧p8 X.K fd ps [])
  (hline:(apos.endLine==pos.line)=AC) (ho:PE X (.Name y py) (up X.K ta)) :
  PE X (.Call (.Attribute (.Name y py) m apos) [] [] pos) (up X.K λenv st Q=>ta env st λx st1=>∃p c fs,x=.ref p∧st1 p=AA (.ins c fs)∧fs.lookup m=AE∧F (c7 c m)=AC∧Ph (c7 c m) [.ref p] st1 Q):=by
 intro pins s σ H Q I q;obtain⟨env,st,Qd,hE,hS,ht,hq⟩:=q;refine Gb (thn (ho pins s σ H (λv H1=>∃p c fs st1,v=.ref p∧Ev st H st1 H1∧RelS X.K st1 H1∧st1 p=AA (.ins c fs)∧fs.lookup m=AE∧F (c7 c m)=AC∧Ph (c7 c m) [.ref p] st1 Qd) I ⟨env,st,_,hE,hS,ht,λv d H1 st1 ev is rs q1=>?_⟩) λu s1⟨v,H1,I1,rx,p,c,fs,st1,ev,e1,rs,h1,h2,h3,h4⟩=>?_) (ak9 rfl hline)
 ·obtain⟨p,c,fs,rfl,q1⟩:=q1;exact⟨p,c,fs,st1,is.ref_inv,ev,rs,q1⟩
 subst ev;cases rx;obtain⟨Ca,dx,vs,hH,hn,r⟩:=rs.ins h1;obtain⟨k,f,fd,ps,cl,me,Fo,hr,hb⟩:=hM c Ca hn h3;have hl:vs.lookup m=AE:=by
  rcases r.look m with⟨_,l2⟩|⟨d',v',l1,_,_⟩
  ·exact l2
  ·rw[h2]at l1;cases l1
 refine ah5 I1 hH cl me hl ?_;exact KC (first:=[.ref p]) I1.kIn me.kp (O1 (us:=[.ref p]) (vs:=[.ref p]) Fo hr hb .nil J7 I1 (.cons rfl .nil) ⟨[.ref p],st1,Qd,by rw[BP];exact .cons (.ref p) .nil,rs,h4,hq.after e1⟩)
def a92{c:Str}{H1:Hp}{st st1:Sto}{Qd:DK}{Q:VK}(hn:Aw X.K AN c=AA (AA (.ref Ca)))(ev:Ev st H st1 H1)(is:IsDs X.K H1 ds vs)(rs:RelS X.K st1 H1)(hq:t3 X.K st H Qd Q)
  (q:∀p,st1 p=AE->sp (.ref p::ds) (b0 st1 p (.ins c [])) λv st2=>v=.non∧Qd (.ref p) st2):∀x dx,H1 x=AE->H1 dx=AE->dx≠x->y3 X.K sp (.ref x::(vs++[])) (upd (upd H1 dx (.own x)) x (.ins Ca dx [])) (λv H2=>v=.non∧Q (.ref x) H2) E0:=by
 intro x dx hx hdx hne;have tk1:TK X.K H1 (upd H1 dx (.own x)):=TK.new hdx;have hx':upd H1 dx (.own x) x=AE:=by rw[i7 (λz=>hne z.symm)];exact hx
 have tk2:TK X.K (upd H1 dx (.own x)) (upd (upd H1 dx (.own x)) x (.ins Ca dx [])):=TK.new hx';refine⟨.ref x::ds,b0 st1 x (.ins c []),_,by rw[BP];exact .cons (.ref x) ((is.mono tk1).mono tk2),(rs.new hdx).putAny (ob:=.ins c []) tk2 ⟨Ca,dx,[],o9,hn,.nil⟩ (by rw[hx'];exact λ_=>nofun),q x (rs.free hx),λv d H2 st2 ev2 is2 rs2 q2=>?_⟩;obtain⟨rfl,q2⟩:=q2;cases is2;refine⟨rfl,hq _ (.ref x) H2 st2 (λb o hb hs=>?_) (.ref x) rs2 q2⟩;obtain⟨⟨o1,b1,t1⟩,b2⟩:=ev b o hb hs;have nx:b≠x:=t6 b1 hx;have nd:b≠dx:=t6 b1 hdx;obtain⟨⟨o2,c1,t2⟩,c2⟩:=ev2 b o1 (by rw[i7 nx,i7 nd];exact b1) (by rw[B9 nx];exact b2);exact⟨⟨o2,c1,t1.trans t2⟩,c2⟩
def cd3{c:Str}{k:Nat}{t:DA}{f:AI}(hn:Aw X.K AN c=AA (AA (.ref Ca)))(M:Mk X.K Ca f)(Fo:FnOk X.prog X.w X.K X.mg X.base CX0 k f fd ps (y3 X.K sp))(hr:Room (k+1) X.A)(hg:Gl X c)(hm:X.mg c=AA (.ref Ca))(hb:p8 X.K fd ps [])
  (ha:PA X (a::es) (upA X.K n t)) (hdb:(c==("__debug__":Str))=AG) (hs:∀e p,a≠.Starred e p) (hpl:(Bm pos (Ak es X.env)).any (·.1)=AG) :
  PE X (.Call (.Name c p) (a::es) [] pos) (up X.K λenv st Q=>t env st λds st1=>∀p,st1 p=AE->sp (.ref p::ds) (b0 st1 p (.ins c [])) λv st2=>v=.non∧Q (.ref p) st2):=
 PE.imp (cg0 M Fo hr hg hm hb .nil J7 ha hdb (l7 hs) hpl) λσ H Q q=>by
  obtain⟨env,st,Qd,hE,hS,ht,hq⟩:=q;exact⟨env,st,_,hE,hS,ht,λvs ds H' st' ev is hl rs q=>a92 hn ev is rs hq q⟩
def ca4{c:Str}{k:Nat}{f:AI}(hn:Aw X.K AN c=AA (AA (.ref Ca)))(M:Mk X.K Ca f)(Fo:FnOk X.prog X.w X.K X.mg X.base CX0 k f fd ps (y3 X.K sp))(hr:Room (k+1) X.A)(hg:Gl X c)(hm:X.mg c=AA (.ref Ca))(hb:p8 X.K fd ps [])(hdb:(c==("__debug__":Str))=AG):
  PE X (.Call (.Name c p) [] [] pos) (up X.K λenv st Q=>∀p,st p=AE->sp [.ref p] (b0 st p (.ins c [])) λv st2=>v=.non∧Q (.ref p) st2):=
 PE.imp (b56 M Fo hr hg hm hb .nil J7 hdb) λσ H Q q=>by
  obtain⟨env,st,Qd,hE,hS,ht,hq⟩:=q;exact a92 (ds:=[]) (vs:=[]) hn Ev.refl .nil hS hq ht
def tyL{K:AO}{st:Sto}{d:D}{v:V}(is:IsD K H d v)(rs:RelS K st H)(h:B7 d st):tyV K "list" v H:=by
 cases d<;>first|exact AZ h|skip
 obtain⟨ds,hr⟩:=h;obtain⟨vs,hs,_⟩:=rs.rd hr;rw[is.ref_inv];exact .inl ⟨rfl,vs,hs⟩
def ap1{nm:Str}{id:String}{r:V->List V->Hp->VK->Prop}{g:D->D->Sto->DK->Prop}(slot:Slot "list" nm id)(hty:typeOf (.builtin id)=pure (.type "method_descriptor"))(hm:MtR X id r)
  (ha:PE X a (up X.K ta)) (hb:PE X b (up X.K tb)) (hbase:∀i p p',a≠.Call (.Name i p) [] [] p') (hs:∀e p,b≠.Starred e p) (hline:(apos.endLine==pos.line)=AC)
  (imp:∀v w d e H' st' Qd Q,IsD X.K H' d v->IsD X.K H' e w->RelS X.K st' H'->g d e st' Qd->t3 X.K st' H' Qd Q->r v [w] H' Q) :
  PE X (.Call (.Attribute a nm apos) [b] [] pos) (up X.K λenv st Q=>ta env st λx st1=>B7 x st1∧tb env st1 λy st2=>g x y st2 Q):=
 PE.imp (cx3 PySem.F.plainAttrs_list slot hty hm ha (F6 hb hs) (A8 hbase) (by rw[l7 hs];rfl) hline (l7 hs) rfl) λσ H Q q=>by
  obtain⟨env,st,Qd,hE,hS,ht,hq⟩:=q;refine⟨env,st,_,hE,hS,ht,λv d H1 st1 ev is rs q1=>⟨tyL is rs q1.1,?_⟩⟩;refine⟨env,st1,(λds st2=>match ds with|[e]=>g d e st2 Qd|_=>False),hE.mono (ev.tk hS),rs,q1.2,λvs ds H' st' ev2 is2 hl rs2 q2=>?_⟩
  match ds,hl with
  |[e],_=>
   obtain⟨w,ws,rfl,i1,i2⟩:=is2.inv_cons;rw[i2.inv_nil];exact imp v w d e H' st' Qd Q (is.mono (ev2.tk rs)) i1 rs2 q2 ((hq.after ev).after ev2)
def ct5(ha:PE X a (up X.K ta))(hb:PE X b (up X.K tb))(hbase:∀i p p',a≠.Call (.Name i p) [] [] p')(hs:∀e p,b≠.Starred e p)(hline:(apos.endLine==pos.line)=AC):
  PE X (.Call (.Attribute a "append" apos) [b] [] pos) (up X.K λenv st Q=>ta env st λx st1=>B7 x st1∧tb env st1 λy st2=>T8 x y st2 Q):=
 ap1 PySem.F.slot_list_append PySem.F.type_list_append au9 ha hb hbase hs hline λv w d e H' st' Qd Q i1 i2 rs ht hq=>by
  cases d<;>first|exact AZ ht|skip
  obtain⟨ds,hr,hz,ht⟩:=ht;obtain⟨vs,hH,r⟩:=rs.lst hr;rw[i1.ref_inv];exact⟨_,vs,w,rfl,rfl,hH,by rw[<-r.len];exact hz,hq _ _ _ _ (Ev.put hr) .non (rs.putOld hH (r.append (.cons i2 .nil))) ht⟩
def bz5(l:AI)(items:Array AF)(n:Nat)(b:AI)(items2:Array AF)(n2:Nat)(sl:Array (Option AF))(hs0:¬(!items.isEmpty&&Bq (items.size+items2.size))=AC)(hs1:items.size<=sizeLine)(hs2:items.size+items2.size<=sizeLine+1):
  IY (Cf.«list.extend» ⟨[.ref l,.ref b],[]⟩) (λ_ R s=>s.heap.get? l=AA {cls:=.type "list",dict:=AE,data:=.seq items n,slots:=#[]}∧s.heap.get? b=AA {cls:=.type "tuple",dict:=AE,data:=.seq items2 n2,slots:=sl}∧R (.ok (.ret Bf)) {s with heap:=s.heap.update l (ER λx=>x++items2),toks:=s.toks}):=
 .of_wp λprog w A R s h=>by
  obtain⟨hp,g,d,tk,os⟩:=s;obtain⟨hl,hb,h⟩:=h;have f1:=AutoSeq1.idx_int;have f2:=AutoSeq1.sub_tuple_tuple;have f3:=AutoSeq1.sub_list_list;have f4:=AutoSeq1.sub_tuple_list;have f5:=AutoSeq1.sub_list_tuple;have hz':(items++items2).size<=sizeLine+1:=by rw[Array.size_append];exact hs2
  wp_walk using(wpAny_updateSeq hl rfl (hz:=hs1) (_hz':=hz')),GB hl,GB hb;exact⟨_,rfl,h⟩
noncomputable def a04(K:AO):V->List V->Hp->VK->Prop:=λx vs H Q=>∃l b xs zs,x=.ref l∧vs=[.ref b]∧H l=AA (.lst xs)∧SqT K H b zs∧xs.length+zs.length<=sizeLine∧Q .non (upd H l (.lst (xs++zs)))
def b11:MtM X "list.extend" (a04 X.K):=by
 intro pins s σ H x vs v us Q I rx rv h;obtain⟨l,b,xs,zs,rfl,rfl,hH,hB,hz,q⟩:=h;cases rx;obtain⟨u,rfl,ru⟩:=rv.one;cases ru;obtain⟨z,its,n,r,hl,e⟩:=I.lstM hH;obtain⟨its2,r2,⟨o,e2,ec,ed,n2,es⟩,z2⟩:=I.tupleD hB;obtain⟨cls,dd,data,sl⟩:=o;simp only at ec ed es;subst ec ed es;have hl2:=r2.length;have hsz:its.toArray.size+its2.toArray.size<=sizeLine:=by rw[AY,AY];lia
 have hlong:¬(!its.toArray.isEmpty&&Bq (its.toArray.size+its2.toArray.size))=AC:=by
  rw[a01 hsz,Iu];exact AH
 refine CU IU ⟨_,e,rfl⟩ IL (ID _ _)
  (bz5 l its.toArray n b its2.toArray n2 sl hlong (by rw[AY];lia) (by lia)) ⟨e,e2,?_⟩
 refine⟨.non,_,I.lset (its':=its++its2) hH e (by simp) (r.append r2) ?_,rfl,q⟩;rw[Ac];lia
def cl2:MtM X "list.extend" (λx vs H Q=>a78 x vs H Q∨a04 X.K x vs H Q):=λpins s σ H x vs v us Q I rx rv h=>h.elim (b48 pins s σ H x vs v us Q I rx rv) (b11 pins s σ H x vs v us Q I rx rv)
def cr7(ha:PE X a (up X.K ta))(hb:PE X b (up X.K tb))(hbase:∀i p p',a≠.Call (.Name i p) [] [] p')(hs:∀e p,b≠.Starred e p)(hline:(apos.endLine==pos.line)=AC):
  PE X (.Call (.Attribute a "extend" apos) [b] [] pos) (up X.K λenv st Q=>ta env st λx st1=>B7 x st1∧tb env st1 λy st2=>T6 x y st2 Q):=
 ap1 PySem.F.slot_list_extend PySem.F.type_list_extend cl2 ha hb hbase hs hline λv w d e H' st' Qd Q i1 i2 rs ht hq=>by
  cases d<;>cases e<;>first|exact AZ ht|skip
  ·obtain⟨ds,hr,hz,ht⟩:=ht;obtain⟨vs,hH,r⟩:=rs.lst hr;obtain⟨b,ws,rfl,hq2,r2⟩:=i2.tup_inv;rw[i1.ref_inv];exact .inr ⟨_,_,vs,ws,rfl,rfl,hH,hq2,by rw[<-r.len,<-r2.len];exact hz,hq _ _ _ _ (Ev.put hr) .non (rs.putOld hH (r.append r2)) ht⟩
  ·obtain⟨ds,es,hr,hr2,hz,ht⟩:=ht;obtain⟨vs,hH,r⟩:=rs.lst hr;obtain⟨ws,hH2,r2⟩:=rs.lst hr2;rw[i1.ref_inv,i2.ref_inv];exact .inl ⟨_,_,vs,ws,rfl,rfl,hH,hH2,by rw[<-r.len,<-r2.len];exact hz,hq _ _ _ _ (Ev.put hr) .non (rs.putOld hH (r.append r2)) ht⟩
def ca7(ha:PE X a (up X.K ta))(hb:PE X b (up X.K tb))(hbase:∀i p p',a≠.Call (.Name i p) [] [] p')(hs:∀e p,b≠.Starred e p)(hline:(apos.endLine==pos.line)=AC):
  PE X (.Call (.Attribute a "pop" apos) [b] [] pos) (up X.K λenv st Q=>ta env st λx st1=>B7 x st1∧tb env st1 λy st2=>am5 x y st2 Q):=
 ap1 PySem.F.slot_list_pop PySem.F.type_list_pop ca2 ha hb hbase hs hline λv w d e H' st' Qd Q i1 i2 rs ht hq=>by
  cases d<;>cases e<;>first|exact AZ ht|skip
  rename_i i;obtain⟨⟨b1,b2⟩,ds,k,d,hr,hk,hd,ht⟩:=ht;obtain⟨vs,hH,r⟩:=rs.lst hr;obtain⟨v',hv',is'⟩:=r.get hd;rw[i1.ref_inv,i2.int_inv];obtain⟨q1,q2,q3,q4⟩:=ak4 hk;exact⟨_,vs,_,k,v',rfl,rfl,hH,by lia,by lia,by rw[<-r.len];exact q1,hv',hq _ _ _ _ (Ev.put hr) (is'.mono (TK.put hH)) (rs.putOld hH (r.erase k)) ht⟩
def cr3(ha:PE X a (up X.K ta))(hbase:∀i p p',a≠.Call (.Name i p) [] [] p')(hline:(apos.endLine==pos.line)=AC):
  PE X (.Call (.Attribute a "pop" apos) [] [] pos) (up X.K λenv st Q=>ta env st λx st1=>X3 x st1 Q):=
 PE.imp (bi3 PySem.F.plainAttrs_list PySem.F.slot_list_pop PySem.F.type_list_pop cm7 ha (A8 hbase) hline) λσ H Q q=>up1 (f:=X3) q λv d H' st' Qd is rs ht hq=>by
  cases d<;>first|exact AZ ht|skip
  obtain⟨ds,d,hr,ht⟩:=ht;obtain⟨vs,hH,r⟩:=rs.lst hr;have hl:=r.len;rw[Ac,HP]at hl;obtain⟨v',hv',is'⟩:=r.get (i:=ds.length) (d:=d) (by simp);rw[is.ref_inv];refine⟨.inl ⟨rfl,vs,.inl (.inl hH)⟩,_,vs,v',rfl,rfl,hH,by rw[<-hl,IG];exact hv',hq _ _ _ (b0 st' _ (.lst ds)) (Ev.put hr) (is'.mono (TK.put hH)) (rs.putOld hH ?_) ht⟩;have e:vs.dropLast=vs.take ds.length:=by rw[List.dropLast_eq_take,<-hl,IG]
  rw[e];have q:=r.take ds.length
  rwa [Ic]at q
  rfl
end
end Ek
namespace Ek
open PySem PySem.Spec PyProof.Rows L2
variable [Tbs]
variable{A:BL}{s:AJ}{items:Array AF}{x:AF}{j:Nat}
theorem ax9{prog:Ai}{w:Ax}{E:AF->AJ->Prop}{e:Nat->Bool}(hj:j<items.size)(he:∀i(h:i<items.size),Hg A s items[i] x (e i))
  (hit:e j=AC) (hno:∀i,i<j->e i=AG):∀k i,i+k=items.size->i<=j ->
   AT (model prog w) A (forIn (Jq i k) ((AE:Option PySem.Fin),()) λ(i:Nat)__s=>
      match items[i]? with
      |some y=>do
       let __do_lift <-eqBool y x
       if __do_lift=AC then do
         let __do_lift <-retInt (i:Int)
         pure (ForInStep.done (AA __do_lift,()))
        else pure (Be (AE,()))
      |x=>pure (Be (AE,())))
    (λr s'=>r.1=AA (PySem.Fin.done (.ret (.int j s.toks)))∧s'={s with toks:=s.toks+1}) E s
 |0,i,h1,h2=>by lia
 |k+1,i,h1,h2=>by
  have hi:i<items.size:=by lia
  rw[IP,IW];have e1:items[i]?=AA items[i]:=by simp[hi]
  rw[e1];dsimp only;refine AD (AD (he i hi prog w _ _ ?_))
  by_cases hij:i=j
  ·subst hij;rw[hit,if_pos rfl];refine AD ?_;show AT _ _ (mkInt (i:Int)>>=_) _ _ _;refine AD (Gi ?_);exact AK (AK (AK ⟨rfl,rfl⟩))
  ·rw[hno i (by lia),if_neg AH];exact AK (ax9 hj he hit hno k (i+1) (by lia) (by lia))
def bx0{prog:Ai}{w:Ax}{E:AF->AJ->Prop}{a:AI}{e:Nat->Bool}{Q:AF->AJ->Prop}(ht:s.heap.IsTuple a items)(hj:j<items.size)(he:∀i(h:i<items.size),Hg A.in1 s items[i] x (e i))
  (hit:e j=AC) (hno:∀i,i<j->e i=AG) (hQ:Q (.int j s.toks) {s with toks:=s.toks+1}) :
  AT (model prog w) A (call (.builtin "tuple.index") [.ref a,x]) Q E s:=by
 obtain⟨o,ho,hc,n,hd⟩:=id ht;refine BI F.slot_tuple_index ht.typeIs F.entry_tuple_index ?_ (F.args_tuple_index_2 _ _);unfold Cf.«tuple.index»;refine AD (FT (a:=(An a,[x])) rfl ?_);dsimp only;refine AD ?_;unfold CJ;refine AD (Cj ho hd (AK ?_));refine AD (AK (AD (AK (AD ?_))));rw[JA];have hs:(FU [0:min items.size items.size])=items.size:=by simp[FU]
 rw[hs];refine Bd (ax9 hj he hit hno items.size 0 (by lia) (BU _)) (λr s' h=>?_) λ_ _ h=>h;obtain⟨h1,rfl⟩:=h;rw[h1];exact AK ⟨_,rfl,hQ⟩
def b02{prog:Ai}{w:Ax}{E:AF->AJ->Prop}{a:AI}{e:AF->Bool}{Q:AF->AJ->Prop}(ht:s.heap.IsList a items)(hj:j<items.size)(hz:items.size<=sizeLine)(he:∀y,y∈items->Hg A.in1 s y x (e y))
  (hit:e items[j]=AC) (hno:∀m(hm:m<items.size),m<j->e items[m]=AG) (hQ:Q (.int j s.toks) {s with toks:=s.toks+1}) :
  AT (model prog w) A (call (.builtin "list.index") [.ref a,x]) Q E s:=by
 obtain⟨⟨cls,dd,data,sl⟩,ho,hc,n,hd⟩:=id ht;simp only at hc hd;subst hc hd;have hb:sizeLine=16777216:=rfl;exact CU PySem.F.slot_list_index ⟨_,ho,rfl⟩ PySem.F.entry_list_index (PySem.F.args_list_index_2 _ _) (SeqAt.list_indexAt a items n dd sl x e j hj (by lia) hit hno) ⟨ho,he,hQ⟩
section
variable {X:Cx} {a b c:AS} {ta tb tc:DT} {pos p:Pos}
def c41{pins:List (AI×Obj)}{σ:L2.St}{H:Hp}{v:V}{u:AF}{d:D}(I:L2.Inv X pins σ H s)(is:IsD X.K H d v)(ru:f9 v u)(h:∃ds,d=.tup ds):s.TypeIs u "tuple"∧∀a,u=.ref a->∃ob,s.heap.get? a=AA ob∧ob.dict=AE:=by
 obtain⟨ds,rfl⟩:=h;obtain⟨q,vs,rfl,hq,r⟩:=is.tup_inv;cases ru;obtain⟨its,rv,⟨o,ho,hc,hdn,n,hd⟩,hz⟩:=I.tupleD hq;exact⟨⟨o,ho,hc⟩,λa e=>by cases e;exact⟨o,ho,hdn⟩⟩
open Classical in
noncomputable def ap2(h:BC)(x:Af)(u:AF):Bool:=AB (∃dt as,Reads h u dt as∧Aq dt x=AC)
open Classical in
def ak3{h:BC}{x dt:Af}{u:AF}{as:List AI}(r:Reads h u dt as)(hc:dt.canLay0=AC):ap2 h x u=Aq dt x:=by
 unfold ap2;cases hb:Aq dt x with
 |true=>exact decide_eq_true ⟨dt,as,r,hb⟩
 |false=>
  refine decide_eq_false λ⟨d',as',r',hb'⟩=>?_;rw[<-Kj dt d' u as as' hc r r',hb]at hb';cases hb'
def ca5{apos:Pos}(hu:X.A.units+200<Bk)(ha:PE X a (up X.K ta))(hb:PE X b (up X.K tb))(hbase:∀i p p',a≠.Call (.Name i p) [] [] p')(hs:∀e p,b≠.Starred e p)(hline:(apos.endLine==pos.line)=AC):
  PE X (.Call (.Attribute a "index" apos) [b] [] pos) (up X.K λenv st Q=>ta env st λx st1=>X4 x st1∧tb env st1 λy st2=>N9 x y st2 Q):=by
 intro pins s σ H Q I q;obtain⟨env,st,Qd,hE,hS,ht,hq⟩:=q;refine IC (A8 hbase) (by rw[l7 hs];rfl) hline rfl (thn (ha pins s σ H (λv H1=>∃d st1,Ev st H st1 H1∧IsD X.K H1 d v∧RelS X.K st1 H1∧X4 d st1∧tb env st1 λy st2=>N9 d y st2 Qd) I ⟨env,st,_,hE,hS,ht,λv d H1 st1 ev is rs q1=>⟨d,st1,ev,is,rs,q1⟩⟩) λu s1⟨v,H1,I1,r1,d,st1,ev,is,rs,q1,q2⟩=>?_);have hA0:=F6 hb hs pos pins s1 σ H1 (λvs H2=>∃w e st2,vs=[w]∧Ev st1 H1 st2 H2∧IsD X.K H2 e w∧RelS X.K st2 H2∧N9 d e st2 Qd) I1 ⟨env,st1,(λds st2=>match ds with|[e]=>N9 d e st2 Qd|_=>False),hE.mono (ev.tk hS),rs,q2,λvs ds H2 st2 ev2 is2 hl rs2 q3=>by
  match ds,hl with
  |[e],_=>
   obtain⟨w,ws,rfl,i1,i2⟩:=is2.inv_cons;rw[i2.inv_nil];exact⟨w,e,st2,rfl,ev2,i1,rs2,q3⟩⟩
 rw[l7 hs]at hA0;cases d with
 |tup ds=>
  obtain⟨h1,h2⟩:=c41 I1 is r1 ⟨_,rfl⟩;refine⟨"tuple","tuple.index",PySem.F.plainAttrs_tuple,PySem.F.slot_tuple_index,PySem.F.type_tuple_index,h1,h2,?_⟩;rw[l7 hs];refine Bj (by rfl) (CZ ?_);refine thn hA0 λus s2⟨vs,H2,I2,r2,w,e,st2,ev',ev2,is2,rs2,q3⟩=>?_;subst ev';obtain⟨uw,rfl,rw'⟩:=r2.one;obtain⟨p1,p2,hd,j,dj,hjd,hit,hno,hQ⟩:=q3;have is':=is.mono (ev2.tk rs);obtain⟨q,vs,rfl,hsq,r⟩:=is'.tup_inv;cases r1;obtain⟨its,rv,pl,hz⟩:=I2.tuple hsq;have hlen:its.length=ds.length:=by rw[<-rv.length,<-r.len]
  have hj:j<ds.length:=(AR.mp hjd).1;obtain⟨as,ra⟩:=B8 I2 is2 p1 rw';refine bx0 (items:=its.toArray) (j:=j) (e:=λi=>match ds[i]? with|some d=>deq d e|none=>AG) (show s2.heap.IsTuple q its.toArray from pl) (by simpa[hlen]using hj) (λi hi=>?_) (by rw[hjd];exact hit) (λi hi=>?_) ?_
  ·have hi':i<ds.length:=by simpa[hlen]using hi
   have e1:ds[i]?=AA ds[i]:=AL hi';rw[e1];obtain⟨v,hv,isv⟩:=r.get e1;obtain⟨u,hu',ruv⟩:=rv.get hv;have pp:=ah9 p2 ds[i] (Gj hi');obtain⟨bs,rb⟩:=B8 I2 isv pp ruv;have e2:its.toArray[i]=u:=by
    have:its[i]?=AA its[i]:=AL (by lia);rw[this]at hu';simpa using Ar hu'
   rw[e2];exact FZ _ _ X.A.in1 s2 u uw bs as rb ra (D9 _ pp) (D9 _ p1) (aa1 hu hd)
  ·have hi':i<ds.length:=by lia
   have e1:ds[i]?=AA ds[i]:=AL hi';rw[e1];exact hno i _ hi e1
  ·exact⟨.int j,H2,I2.tok _,⟨_,rfl⟩,((hq.after ev).after ev2).here (.int _) rs2 hQ⟩
 |ref a0=>
  obtain⟨ds0,hr0⟩:=q1;have ev1:=is.ref_inv;subst ev1;cases r1;obtain⟨vs0,hq0,_⟩:=rs.rd hr0;obtain⟨its0,_,pl0,_⟩:=I1.list hq0;refine⟨"list","list.index",PySem.F.plainAttrs_list,PySem.F.slot_list_index,PySem.F.type_list_index,pl0.isList.typeIs,λa e=>?_,?_⟩
  ·cases e;obtain⟨o,n,g1,g2,g3,g4⟩:=pl0;exact⟨o,g1,g3⟩
  rw[l7 hs];refine Bj (by rfl) (CZ ?_);refine thn hA0 λus s2⟨vs,H2,I2,r2,w,e,st2,ev',ev2,is2,rs2,q3⟩=>?_;subst ev';obtain⟨uw,rfl,rw'⟩:=r2.one;obtain⟨ds,hr,p1,p2,hd,j,dj,hjd,hit,hno,hQ⟩:=q3;obtain⟨vs,hsq,r⟩:=rs2.rd hr;obtain⟨its,rv,pl,hz⟩:=I2.list hsq;have hlen:its.length=ds.length:=by rw[<-rv.length,<-r.len]
  have hj:j<ds.length:=(AR.mp hjd).1;obtain⟨as,ra⟩:=B8 I2 is2 p1 rw';have at':∀(i:Nat)(hi:i<ds.length),∃bs,Reads s2.heap (its[i]'(by lia)) (ds[i]).py bs∧(ds[i]).py.canLay0=AC:=λi hi=>by
   have e1:ds[i]?=AA ds[i]:=AL hi;obtain⟨v,hv,isv⟩:=r.get e1;obtain⟨u,hu',ruv⟩:=rv.get hv;have pp:=ah9 p2 ds[i] (Gj hi);obtain⟨bs,rb⟩:=B8 I2 isv pp ruv;have e2:its[i]'(by lia)=u:=by
    have:its[i]?=AA (its[i]'(by lia)):=AL (by lia);rw[this]at hu';exact Ar hu'
   rw[e2];exact⟨bs,rb,D9 _ pp⟩
  refine b02 (items:=its.toArray) (j:=j) (e:=ap2 s2.heap e.py) pl.isList (by simpa[hlen]using hj) (by rw[AY,<-rv.length];exact hz) (λy hy=>?_) ?_ (λm hm hlt=>?_) ?_
  ·obtain⟨i,hi,rfl⟩:=Ej.mp (show y∈its by simpa using hy);obtain⟨bs,rb,cb⟩:=at' i (by lia);rw[ak3 rb cb];exact FZ _ _ X.A.in1 s2 _ uw bs as rb ra cb (D9 _ p1) (aa1 hu hd)
  ·obtain⟨bs,rb,cb⟩:=at' j hj;have e1:its.toArray[j]'(by simpa[hlen]using hj)=its[j]'(by lia):=by simp
   rw[e1,ak3 rb cb];have e2:dj=ds[j]:=by rw[AL hj]at hjd;exact(Ar hjd).symm
   rw[e2]at hit;exact hit
  ·have hm':m<ds.length:=by lia
   obtain⟨bs,rb,cb⟩:=at' m hm';have e1:its.toArray[m]'hm=its[m]'(by lia):=by simp
   rw[e1,ak3 rb cb];exact hno m ds[m] hlt (AL hm')
  ·exact⟨.int j,H2,I2.tok _,⟨_,rfl⟩,((hq.after ev).after ev2).here (.int _) rs2 hQ⟩
 |_=>exact q1.elim
end
end Ek
namespace Ek
open PySem PySem.Spec PyProof.Rows L2
variable [Tbs]
variable{s:AJ}{g:Str}{kvs:List (Str×D)}
section
variable {X:Cx} {a b c:AS} {ta tb tc:DT} {pos p:Pos}
noncomputable def DPs(X:Cx)(pos:Pos)(keys:List (Option AS))(values:List AS)(ks:List Str)(t:DA):Prop:=
 ∃trs,PPs X pos keys values trs∧∀(σ:L2.St)(H:Hp)(Q:List (V×V)->Hp->Prop),(∃env st Qd,RelE X.K H env σ∧RelS X.K st H∧t env st Qd ∧
  ∀vs ds H' st',Ev st H st' H'->IsDs X.K H' ds vs->ds.length=ks.length->RelS X.K st' H'->Qd ds st'->Q ((ks.zip vs).map λkv=>(V.str kv.1,kv.2)) H')->W0 trs σ H Q
def cp9:DPs X pos [] [] [] (λ_ st Q=>Q [] st):=⟨[],cd6,λσ H Q⟨env,st,Qd,hE,hS,ht,hq⟩=>hq [] [] H st Ev.refl .nil rfl hS ht⟩
def ch2{k:Str}{j:Nat}{kp:Pos}{ks:List Str}{keys:List (Option AS)}{values:List AS}{t:DA}(ha:PE X a (up X.K ta))(hr:DPs X pos keys values ks t):
  DPs X pos (AA (.Constant (.str k) j kp)::keys) (a::values) (k::ks) (λenv st Q=>ta env st λd st1=>t env st1 λds st2=>Q (d::ds) st2):=by
 obtain⟨trs,h1,h2⟩:=hr;refine⟨_,b70 be0 ha h1,λσ H Q⟨env,st,Qd,hE,hS,ht,hq⟩=>?_⟩;show up X.K ta σ H λy H2=>W0 trs σ H2 λps H3=>Q ((V.str k,y)::ps) H3;exact⟨env,st,_,hE,hS,ht,λv d H1 st1 ev is rs q1=>h2 σ H1 _ ⟨env,st1,_,hE.mono (ev.tk hS),rs,q1,λvs ds H2 st2 ev2 is2 hl rs2 q2=>
  hq (v::vs) (d::ds) H2 st2 (ev.trans ev2) (.cons (is.mono (ev2.tk rs)) is2) (by simp[hl]) rs2 q2⟩⟩
theorem au8:∀(more kvs:List (Key×V)),(∀k∈more.map (·.1),o5 kvs k=AE)->(more.map (·.1)).Nodup->G9 kvs more=kvs++more
 |[],kvs,_,_=>by simp[G9]
 |(k,v)::r,kvs,h,nd=>by
  have nd':=BM.mp (show(k::r.map (·.1)).Nodup from nd);show G9 (u4 kvs k v) r=_;rw[b82 v (h k (by simp)),au8 r _ (λk' hk'=>?_) nd'.2,CT]
  ·rfl
  ·have hne:k'≠k:=λz=>nd'.1 (by rw[<-z];exact hk');have h1:=h k' (by simp only[Aa,AM];exact .inr hk');unfold o5 at h1 ⊢;rw[Option.map_eq_none_iff]at h1 ⊢;rw[List.find?_append,h1];simp[Av hne]
theorem av3:∀(ks:List Str)(ds:List D)(vs:List V)(w:Str)(d:D){K:AO}{H:Hp},IsDs K H ds vs->n8 (ks.zip ds) w=AA d->∃v,o5 ((ks.zip vs).map λkv=>((Bz kv.1:Key),kv.2)) (Bz w)=AA v∧IsD K H d v
 |[],ds,vs,w,d,K,H,r,h=>by simp[n8]at h
 |k::ks,[],vs,w,d,K,H,r,h=>by simp[n8]at h
 |k::ks,e::ds,vs,w,d,K,H,r,h=>by
  obtain⟨v,ws,rfl,h1,h2⟩:=r.inv_cons;simp only[ET,n8]at h
  by_cases hk:k=w
  ·rw[if_pos hk]at h;cases h;refine⟨v,?_,h1⟩;unfold o5;simp[hk]
  ·rw[if_neg hk]at h;obtain⟨v',h3,h4⟩:=av3 ks ds ws w d h2 h;refine⟨v',?_,h4⟩;unfold o5 at h3 ⊢;simp only[ET,Aa,Bg];have:AB ((Bz k:Key)=Bz w)=AG:=decide_eq_false λz=>hk (Gm z);rw[this];exact h3
def cc8{ks:List Str}{keys:List (Option AS)}{values:List AS}{t:DA}{dp:Pos}(hu:X.A.units+200<Bk)(hd:DPs X dp keys values ks t)(hall:keys.all (·.isSome)=AC)(hl:keys.length=values.length)(h0:keys≠[])(hkl:keys.length=ks.length)(h15:keys.length<=15)(nd:ks.Nodup)
  (hb:PE X b (up X.K tb)) (hs:∀l u s p,b≠.Slice l u s p) :
  PE X (.Subscript (.Dict keys values dp) b pos) (up X.K λenv st Q=>t env st λds st1=>tb env st1 λx st2=>∃w d,x=.str w∧n8 (ks.zip ds) w=AA d∧Q d st2):=by
 obtain⟨trs,h1,h2⟩:=hd;refine PE.imp (ck2 (by lia) (cl0 h1 hall hl h0 h15) hb (ah4 hs)) λσ H Q q=>?_;obtain⟨env,st,Qd,hE,hS,ht,hq⟩:=q;intro p hp;have sp:st p=AE:=hS.free hp;refine h2 σ _ _ ⟨env,st,_,hE.mono (TK.new hp),hS.new hp,ht,λvs ds H2 st2 ev2 is2 hl2 rs2 q2=>?_⟩;obtain⟨e2,sp2⟩:=ev2.get o9 sp (λ_=>nofun);refine⟨e2,(ks.zip vs).map λkv=>((Bz kv.1:Key),kv.2),by rw[CL];rfl,?_,?_⟩
 ·rw[AV,List.length_zip,<-is2.len,hl2];lia
 have hm:G9 [] ((ks.zip vs).map λkv=>((Bz kv.1:Key),kv.2))=(ks.zip vs).map λkv=>((Bz kv.1:Key),kv.2):=by
  rw[au8 _ [] (λ_ _=>rfl)]
  ·rfl
  ·rw[CL];have:((λx:Key×V=>x.1)∘λkv:Str×V=>((Bz kv.1:Key),kv.2))=(λx:Str=>(Bz x:Key))∘(λkv:Str×V=>kv.1):=rfl;rw[this,<-CL];have e:(ks.zip vs).map (λkv:Str×V=>kv.1)=ks:=by
    have:=List.map_fst_zip (l₁:=ks) (l₂:=vs) (by rw[<-is2.len,hl2];exact AU _);exact this
   rw[e];exact Jr _ (λa b hab z=>hab (Gm z)) nd
 rw[hm];have tk3:TK X.K H2 (upd H2 p (.dK ((ks.zip vs).map λkv=>((Bz kv.1:Key),kv.2)))):=TK.putD e2;have rs3:RelS X.K st2 (upd H2 p (.dK ((ks.zip vs).map λkv=>((Bz kv.1:Key),kv.2)))):=rs2.stay tk3 (λc u z=>i7 λw=>by rw[w,sp2]at z;cases z) (Z0 (by rw[e2];exact λ_ z=>by cases z));refine⟨env,st2,_,((hE.mono (TK.new hp)).mono (ev2.tk (hS.new hp))).mono tk3,rs3,q2,λy x H4 st4 ev4 is4 rs4 q4=>?_⟩;obtain⟨w,d,rfl,lk,q4⟩:=q4;obtain⟨e4,sp4⟩:=ev4.get o9 sp2 (λ_=>nofun);have is2':=(is2.mono tk3).mono (ev4.tk rs3);obtain⟨v,hv,isv⟩:=av3 ks ds vs w d is2' lk;refine⟨p,v,rfl,?_,hq v d H4 st4 (λc o hc hs=>?_) isv rs4 q4⟩
 ·rw[is4.str_inv,<-hv];exact u2.k (k:=Bz w) e4
 ·have ne:c≠p:=t6 hc hp;obtain⟨⟨o1,x1,t1⟩,y1⟩:=ev2 c o (by rw[i7 ne];exact hc) hs;obtain⟨⟨o2,x2,t2⟩,y2⟩:=ev4 c o1 (by rw[i7 ne];exact x1) y1;exact⟨⟨o2,x2,t1.trans t2⟩,y2⟩
noncomputable abbrev G0(h:BC)(a:AI)(T:List (Str×AF)):Prop:=KTD.TabOf (λ(d v:AF)=>v=d) h a T
def G0.typeIs{a:AI}{T:List (Str×AF)}(t:G0 s.heap a T):s.TypeIs (.ref a) "dict":=let⟨_,o,_,_,ho,hc,_⟩:=t;⟨o,ho,hc.1⟩
def G0.get{prog:Ai}{w:Ax}{A:BL}{E:AF->AJ->Prop}{s:AJ}{a:AI}{T:List (Str×AF)}{k:Str}{tk:Tok}{Q:Option AF->AJ->Prop}(t:G0 s.heap a T)
  (h:Q (Bn k T) {s with toks:=s.toks+1}):AT (model prog w) A (Ja a (.str k tk)) Q E s:=by
 obtain⟨_,o,⟨l⟩,ep,ho,hc,hd,hr⟩:=t;unfold Ja
 try with_reducible refine Bs ?_
 refine AD (Ea (AD (KTD.kt_dictFind_strs (s:={s with toks:=s.toks+1}) ho hd (by simpa using hr.exact) ?_)));have e:Bn k T=(l.find? λe=>e.key.isStr k).map (·.val):=by
  cases hat:Bn k T with
  |some d=>obtain⟨v,hv,rfl⟩:=hr.find_some hat;exact hv.symm
  |none=>exact(hr.find_none hat).symm
 have hf:findBy (λk v=>v.isStr k) (⟨l⟩:Array DR) k=Bn k T:=by rw[e];simp[findBy]
 rw[<-hf,findBy_of_findIdx?]at h;cases hi:(⟨l⟩:Array DR).findIdx? λe=>e.key.isStr k with
 |none=>rw[hi]at h;exact AK h
 |some i=>rw[hi]at h;exact AD (wpAny_dictEntries (s:={s with toks:=s.toks+1}) ho hd (AK h))
def by0{prog:Ai}{w:Ax}{A:BL}{E:AF->AJ->Prop}{a:AI}{T:List (Str×AF)}{k:Str}{tk:Tok}{u:AF}{Q:AF->AJ->Prop}(H:G0 s.heap a T)(hk:Bn k T=AA u)
  (h:Q u {s with toks:=s.toks+1}):AT (model prog w) A (Da (.ref a) (.str k tk)) Q E s:=by
 unfold Da
 try with_reducible refine Bs ?_
 refine AD (GO H.typeIs (by decide) ?_);refine AD (BK (name:=Ab "__getitem__") H.typeIs Jb
  (BI Jb H.typeIs entry_dict_getitem ?_ (args_dict_getitem _ _)))
 show AT _ _ (Ja a (.str k tk)>>=_) _ _ s;refine AD (H.get ?_);rw[hk];exact AK ⟨u,rfl,AK h⟩
def G0.dget{prog:Ai}{w:Ax}{A:BL}{E:AF->AJ->Prop}{a:AI}{T:List (Str×AF)}{k:Str}{tk:Tok}{r:AF}{Q:AF->AJ->Prop}(t:G0 s.heap a T)
  (h:Q ((Bn k T).getD r) {s with toks:=s.toks+1}):AT (model prog w) A (call (.builtin "dict.get") [.ref a,.str k tk,r]) Q E s:=by
 refine BI PySem.F.slot_dict_get t.typeIs PySem.F.entry_dict_get ?_ (PySem.F.args_dict_get_3 _ _ _);show AT _ _ (Ja a (.str k tk)>>=_) _ _ s;refine AD (t.get ?_);cases hf:Bn k T with
 |some v=>rw[hf]at h;exact AK ⟨v,rfl,h⟩
 |none=>
  rw[hf]at h;show AT _ _ (KH a (.str k tk)>>=_) _ _ _;exact AD (wpAny_missed_other t.1 (AK ⟨r,rfl,h⟩))
structure GTab(P:Ai)(w:Ax)(K:AO)(mg:Str->Option AF)(g:Str)(kvs:List (Str×D)):Prop where
 ex:∃(a:AI)(T:List (Str×AF)),mg g=AA (.ref a)∧(∀h:BC,K.In h->G0 h a T)∧(∀x d,n8 kvs x=AA d->∃u v,Bn x T=AA u∧f9 v u∧∀H,IsD K H d v)∧∀x,n8 kvs x=AE->Bn x T=AE
def cj0(T:kvs≠[]->GTab X.prog X.w X.K X.mg g kvs)(hg:Gl X g)(hb:PE X b (up X.K tb))(hs:∀l u s p,b≠.Slice l u s p)(hdb:(g==("__debug__":Str))=AG):
  PE X (.Subscript (.Name g p) b pos) (up X.K λenv st Q=>kvs≠[]∧tb env st λx st1=>∃w d,x=.str w∧n8 kvs w=AA d∧Q d st1):=by
 intro pins s σ H Q I q;obtain⟨env,st,Qd,hE,hS,⟨hne,ht⟩,hq⟩:=q;obtain⟨t,vs,hm,hT,hl,_⟩:=(T hne).ex;have q:up X.K (λenv st Q=>tb env st λx st1=>∃w d,x=.str w∧n8 kvs w=AA d∧Q d st1) σ H Q:=⟨env,st,Qd,hE,hS,ht,hq⟩;refine a67 PySem.F.slot_dict_getitem.lookup (ah4 hs) (Q1 I hg hm ?_ hdb);refine thn (hb pins s σ H (λv H1=>∃(w:Str)(d:D),v=.str w∧n8 kvs w=AA d∧∀v',IsD X.K H1 d v'->Q v' H1) I (up1 (f:=λx st1 Q=>∃w d,x=.str w∧n8 kvs w=AA d∧Q d st1) q λv d H' st' Qd is rs ht hq=>?_)) λiv s2⟨y,H2,I2,ry,w,d,ey,lk,q2⟩=>?_
 ·obtain⟨w,d,rfl,lk,ht⟩:=ht;exact⟨w,d,is.str_inv,lk,λv' is'=>hq.here is' rs ht⟩
 ·subst ey;obtain⟨tt,rfl⟩:=ry;obtain⟨u,v',h1,rv,is'⟩:=hl w d lk;have hh:G0 s2.heap t vs:=hT s2.heap I2.kIn;exact⟨hh.typeIs,by0 hh h1 ⟨v',H2,I2.tok _,rv,q2 v' (is' H2)⟩⟩
def cj3{apos:Pos}(T:kvs≠[]->GTab X.prog X.w X.K X.mg g kvs)(hg:Gl X g)(hb:PE X b (up X.K tb))(hc:PE X c (up X.K tc))(hs:∀e p,b≠.Starred e p)(hs2:∀e p,c≠.Starred e p)(hline:(apos.endLine==pos.line)=AC)(hdb:(g==("__debug__":Str))=AG):
  PE X (.Call (.Attribute (.Name g p) "get" apos) [b,c] [] pos) (up X.K λenv st Q=>kvs≠[]∧tb env st λx st1=>tc env st1 λy st2=>∃w,x=.str w∧Q ((n8 kvs w).getD y) st2):=by
 intro pins s σ H Q I q;obtain⟨env,st,Qd,hE,hS,⟨hne,ht⟩,hq⟩:=q;obtain⟨t,vs,hm,hT,hl,hno⟩:=(T hne).ex;have et:Bm pos (Ak [b,c] X.env)=[(AG,eval b X.env),(AG,eval c X.env)]:=by rw[l7 hs,l7 hs2];rfl
 refine JX (A8 (λ_ _ _=>nofun)) (by rw[et];rfl) hline PySem.F.plainAttrs_dict PySem.F.slot_dict_get PySem.F.type_dict_get (Q1 I hg hm ?_ hdb);have hh:G0 s.heap t vs:=hT s.heap I.kIn;refine⟨hh.typeIs,λb e=>?_,?_⟩
 ·injection e with e
  subst e;obtain⟨_,o,_,_,ho,hc,_⟩:=hh;exact⟨o,ho,hc.2.1⟩
 ·rw[et];refine Bj rfl (CZ (Cp (thn (hb pins s σ H (λv H1=>∃d st1,Ev st H st1 H1∧IsD X.K H1 d v∧RelS X.K st1 H1∧tc env st1 λy st2=>∃w,d=.str w∧Qd ((n8 kvs w).getD y) st2) I ⟨env,st,_,hE,hS,ht,λv d H' st' ev is rs q=>⟨d,st',ev,is,rs,q⟩⟩) λiv s2⟨y,H2,I2,ry,d,st1,ev1,is1,rs1,q1⟩=>
   Cp (thn (hc pins s2 σ H2 (λv H3=>∃e st2,Ev st1 H2 st2 H3∧IsD X.K H3 e v∧RelS X.K st2 H3∧∃w,d=.str w∧Qd ((n8 kvs w).getD e) st2) I2 ⟨env,st1,_,hE.mono (ev1.tk hS),rs1,q1,λv d H' st' ev is rs q=>⟨d,st',ev,is,rs,q⟩⟩) λfv s3⟨z,H3,I3,rz,e,st2,ev2,is2,rs2,w,ew,q2⟩=>Do ?_))))
  subst ew;rw[is1.str_inv]at ry;obtain⟨tt,rfl⟩:=ry;refine(hT s3.heap I3.kIn).dget ?_;cases lk:n8 kvs w with
  |some dv=>
   obtain⟨u,v',h1,rv,is'⟩:=hl w dv lk;rw[lk]at q2;rw[h1];exact⟨v',H3,I3.tok _,rv,(hq.after (ev1.trans ev2)).here (is' H3) rs2 q2⟩
  |none=>
   rw[lk]at q2;rw[hno w lk];exact⟨z,H3,I3.tok _,rz,(hq.after (ev1.trans ev2)).here is2 rs2 q2⟩
noncomputable def E2:List D->List AF->Bool
 |[],[]=>AC
 |.int i::ds,.int j _::us=>(i==j)&&E2 ds us
 |_,_=>AG
noncomputable def W8(K:AO):D->AF->Bool
 |.int j,.int i _=>i==j
 |.str y,.str x _=>x==y
 |.fn f,.ref a=>Aw K AN f==AA (AA (.ref a))
 |.ktup ns,.ref a=>(match K.lookup a with
  |some o=>(match o.data with|.seq its _=>(o.cls==.type "tuple")&&o.dict.isNone&&AB (its.size<=1000)&&E2 (ns.map D.int) its.toList|_=>AG)
  |none=>AG)
 |.tup ds,.ref a=>Tbs.kt&&match K.lookup a with
  |some o=>(match o.data with|.seq its _=>(o.cls==.type "tuple")&&o.dict.isNone&&AB (its.size<=1000)&&E2 ds its.toList|_=>AG)
  |none=>AG
 |_,_=>AG
theorem E2.is:∀{ds:List D}{us:List AF},E2 ds us=AC->∃ns:List Int,ds=ns.map D.int∧f7 (ns.map V.int) us
 |[],[],_=>⟨[],rfl,.nil⟩
 |[],_::_,h=>by simp[E2]at h
 |d::ds,[],h=>by simp[E2]at h
 |d::ds,u::us,h=>by
  cases d<;>cases u<;>simp only[E2,At,beq_iff_eq,BO]at h;rename_i i j t;obtain⟨rfl,h⟩:=h;obtain⟨ns,rfl,r⟩:=E2.is h;exact⟨i::ns,rfl,.cons ⟨_,rfl⟩ r⟩
theorem aw8{K:AO}{H:Hp}:∀ns:List Int,IsDs K H (ns.map D.int) (ns.map V.int)
 |[]=>.nil
 |n::r=>.cons (.int n) (aw8 r)
theorem W8.is{K:AO}{d:D}{u:AF}(h:W8 K d u=AC):∃v,f9 v u∧∀H,IsD K H d v:=by
 cases d<;>cases u<;>simp only[W8,beq_iff_eq,BO]at h
 ·subst h;exact⟨.int _,⟨_,rfl⟩,λH=>.int _⟩
 ·subst h;exact⟨.str _,⟨_,rfl⟩,λH=>.str _⟩
 ·rename_i ds a;rw[At]at h;obtain⟨hkt,h⟩:=h;cases hk:K.lookup a with
  |none=>rw[hk]at h;cases h
  |some o=>
   rw[hk]at h;simp only at h
   split at h
   ·rename_i its n hd;simp only[At,beq_iff_eq,decide_eq_true_eq]at h;obtain⟨⟨⟨h1,h2⟩,h3⟩,h4⟩:=h;obtain⟨ns,rfl,r⟩:=E2.is h4;exact⟨.ref a,rfl,λH=>IsD.mk (.inr ⟨hkt,.inr ⟨o,its,n,hk,h1,by simpa using h2,hd,BF h3 (by decide),r⟩⟩) (aw8 ns)⟩
   ·cases h
 ·rename_i f a;exact⟨.ref a,rfl,λH=>.fn h⟩
 ·rename_i ms a;cases hk:K.lookup a with
  |none=>rw[hk]at h;cases h
  |some o=>
   rw[hk]at h;simp only at h
   split at h
   ·rename_i its n hd;simp only[At,beq_iff_eq,decide_eq_true_eq]at h;obtain⟨⟨⟨h1,h2⟩,h3⟩,h4⟩:=h;obtain⟨ns,e,r⟩:=E2.is h4;have e:ms=ns:=(List.map_inj_right (λa b z=>by cases z;rfl)).mp e;subst e;exact⟨.ref a,rfl,λH=>.ktup (.inr ⟨o,its,n,hk,h1,by simpa using h2,hd,BF h3 (by decide),r⟩)⟩
   ·cases h
noncomputable def ao5(K:AO)(e:DR)(p:Str×D):Bool:=(match e.key with|.str x _=>x==p.1|_=>AG)&&W8 K p.2 e.val
noncomputable def Q6(K:AO):List DR->List (Str×D)->Bool
 |[],[]=>AC
 |e::es,p::ps=>ao5 K e p&&Q6 K es ps
 |_,_=>AG
noncomputable def W3(K:AO)(a:AI)(kvs:List (Str×D)):Bool:=match K.lookup a with
 |some ⟨c,dd,.dict es _,sl⟩=>(c==.type "dict")&&dd.isNone&&sl.isEmpty&&Q6 K es.toList kvs&&!(a==CH)
 |_=>AG
noncomputable def T2:List DR->List (Str×D)->List (Str×AF)
 |e::es,(x,_)::r=>(x,e.val)::T2 es r
 |_,_=>[]
theorem a51{K:AO}:∀(es:List DR)(kvs:List (Str×D)),Q6 K es kvs=AC->KTD.Rows (λ(d v:AF)=>v=d) es (T2 es kvs)
 |[],[],_=>.nil
 |[],_::_,h'=>by cases h'
 |_::_,[],h'=>by cases h'
 |e::es,(x,d)::ps,h'=>by
  simp only[Q6,ao5,At]at h';obtain⟨⟨h1,_⟩,h2⟩:=h'
  split at h1
  ·rename_i y t ek;have:y=x:=by simpa using h1
   subst this;exact .cons ek rfl (a51 es ps h2)
  ·cases h1
theorem aj7{K:AO}:∀(kvs:List (Str×D))(es:List DR),Q6 K es kvs=AC->∀x,(∀d,n8 kvs x=AA d->∃u v,Bn x (T2 es kvs)=AA u∧f9 v u∧∀H,IsD K H d v)∧(n8 kvs x=AE->Bn x (T2 es kvs)=AE)
 |[],[],_,x=>⟨λd h=>(nomatch h),λ_=>rfl⟩
 |[],_::_,h',x=>by cases h'
 |(y,e)::r,[],h',x=>by cases h'
 |(y,e)::r,en::es,h',x=>by
  simp only[Q6,ao5,At]at h';obtain⟨⟨_,h1⟩,h2⟩:=h';have ih:=aj7 r es h2 x;simp only[n8,T2,Bn]
  by_cases hy:y=x
  ·rw[if_pos hy,if_pos (by simp[hy])];obtain⟨v,rv,is⟩:=W8.is h1;exact⟨λd h=>by cases h;exact⟨_,v,rfl,rv,is⟩,λh=>by cases h⟩
  ·rw[if_neg hy,if_neg (by simp[Av hy])];exact ih
def al7{P:Ai}{w:Ax}{K:AO}{mg:Str->Option AF}{h:BC}{a:AI}(Xk:K.In h)(G:h.Ns AN mg)(a1:Aw K AN g=AA (AA (.ref a)))(t1:W3 K a kvs=AC):GTab P w K mg g kvs:=by
 unfold W3 at t1
 split at t1
 ·rename_i c dd es ep sl hk;simp only[At,beq_iff_eq,GS]at t1;obtain⟨⟨⟨⟨e1,e2⟩,e3⟩,e4⟩,e5⟩:=t1;refine⟨a,T2 es.toList kvs,Hh Xk G a1,λh' hK'=>⟨e5,_,es,ep,hK' a _ hk,⟨e1,by simpa using e2,by simpa using e3⟩,rfl,a51 _ _ e4⟩,λx d lk=>(aj7 kvs _ e4 x).1 d lk,λx=>(aj7 kvs _ e4 x).2⟩
 ·cases t1
end
end Ek
namespace Ek
open PySem PySem.Spec PyProof.Rows L2
variable [Tbs]
variable{q:AI}{ds:List D}{H1:Hp}
section
variable {X:Cx} {a b c:AS} {ta tb tc:DT} {pos p:Pos}
structure ItOk(K:AO)(H1:Hp)(J:L2.It)(items:List D)(chk:Sto->Prop):Prop where
 go:∀(i:Nat)st H,TK K H1 H->RelS K st H->chk st->i<items.length->J.go i H
 yld:∀(i:Nat)st H x H',TK K H1 H->RelS K st H->chk st->i<items.length->J.yld i H x H'->∃d,items[i]?=AA d∧IsD K H' d x∧Ev st H st H'∧RelS K st H'
 stop:∀st H,TK K H1 H->RelS K st H->chk st->J.stop items.length H
noncomputable def upI(K:AO)(t:i9->Sto->ItK->Prop):TI:=λσ H R=>∃env st k,RelE K H env σ∧RelS K st H∧t env st k∧∀items chk st' H' J,Ev st H st' H'->RelS K st' H'->ItOk K H' J items chk->k items chk st'->R J H'
def _root_.L2.PI.imp{X:Cx}{tg x:AS}{t t':TI}(h:PI X tg x t)(i:∀σ H Q,t' σ H Q->t σ H Q):PI X tg x t':=λpins s σ H Q I q=>h pins s σ H Q I (i σ H Q q)
variable {K:AO}
def cp7{vs:List V}(hq:SqT K H1 q vs)(r:IsDs K H1 ds vs):ItOk K H1 (Itt K q) ds (λ_=>True) where
 go:=λi st H tk rs _ hi=>by
  obtain⟨v,hv,_⟩:=r.get (AL hi);exact⟨vs,v,tk.1.1 _ _ hq,hv⟩
 yld:=λi st H x H' tk rs _ hi y=>by
  obtain⟨rfl,y⟩:=y;obtain⟨d,hd,is⟩:=r.get' (y vs (tk.1.1 _ _ hq));exact⟨d,hd,is.mono tk,Ev.refl,rs⟩
 stop:=λst H tk rs _=>⟨vs,tk.1.1 _ _ hq,by rw[r.len];exact AU _⟩
def cp2:ItOk K H1 (Itl K q) ds (λst=>rdS st q ds) where
 go:=λi st H tk rs hc hi=>by
  obtain⟨vs,hs,r⟩:=rs.rd hc;obtain⟨v,hv,_⟩:=r.get (AL hi);exact⟨vs,v,hs,hv⟩
 yld:=λi st H x H' tk rs hc hi y=>by
  obtain⟨rfl,y⟩:=y;obtain⟨vs,hs,r⟩:=rs.rd hc;obtain⟨d,hd,is⟩:=r.get' (y vs hs);exact⟨d,hd,is,Ev.refl,rs⟩
 stop:=λst H tk rs hc=>by
  obtain⟨vs,hs,r⟩:=rs.rd hc;exact⟨vs,hs,by rw[r.len];exact AU _⟩
def bc2{lo:Int}{n:Nat}:ItOk K H1 (Itr lo n) (t0 lo n) (λ_=>True) where
 go:=λi st H tk rs _ hi=>by show i<n;simpa[t0]using hi
 yld:=λi st H x H' tk rs _ hi y=>by
  obtain⟨rfl,rfl⟩:=y;have hi':i<n:=by simpa[t0]using hi
  exact⟨.int (lo+i),by simp[t0,hi'],.int _,Ev.refl,rs⟩
 stop:=λst H tk rs _=>by show n<=(t0 lo n).length;simp[t0]
theorem ai3:∀(ds:List D)(k:Nat),(o6 k ds).length=ds.length
 |[],_=>rfl
 |d::ds,k=>by simp[o6,ai3 ds (k+1)]
theorem aw4:∀(ds:List D)(k i:Nat)(d:D),ds[i]?=AA d->(o6 k ds)[i]?=AA (.tup [.int ((k+i:Nat):Int),d])
 |[],k,i,d,h=>by simp at h
 |e::ds,k,0,d,h=>by simp at h;subst h;rfl
 |e::ds,k,i+1,d,h=>by
  have:=aw4 ds (k+1) i d (by simpa using h);have e:k+(i+1)=k+1+i:=by lia
  rw[e];simpa[o6]using this
def a56{sq:Hp->List V->Prop}{chk:Sto->Prop}(h:∀st H,TK K H1 H->RelS K st H->chk st->∃vs,sq H vs∧IsDs K H ds vs):ItOk K H1 (Ite K sq) (o6 0 ds) chk where
 go:=λi st H tk rs hc hi=>by
  obtain⟨vs,hs,r⟩:=h st H tk rs hc;rw[ai3]at hi;obtain⟨v,hv,_⟩:=r.get (AL hi);exact⟨vs,v,hs,hv⟩
 yld:=λi st H x H' tk rs hc hi y=>by
  obtain⟨t,v,ht,rfl,rfl,y⟩:=y;obtain⟨vs,hs,r⟩:=h st H tk rs hc;obtain⟨d,hd,is⟩:=r.get' (y vs hs);refine⟨_,aw4 ds 0 i d hd,IsD.mk (SqX.of o9) (.cons ?_ (.cons (is.mono (TK.new ht)) .nil)),Ev.new ht,rs.new ht⟩;have e:((0+i:Nat):Int)=(i:Int):=by simp
  rw[e];exact .int _
 stop:=λst H tk rs hc=>by
  obtain⟨vs,hs,r⟩:=h st H tk rs hc;exact⟨vs,hs,by rw[ai3,r.len]⟩
def cu0:ItOk K H1 (Itv K q ds.length) ds.reverse (λst=>rdS st q ds) where
 go:=λi st H tk rs hc hi=>by
  obtain⟨vs,hs,r⟩:=rs.rd hc;exact⟨⟨vs,hs,r.len.symm⟩,by simpa using hi⟩
 yld:=λi st H x H' tk rs hc hi y=>by
  obtain⟨rfl,y⟩:=y;obtain⟨vs,hs,r⟩:=rs.rd hc;have hi':i<ds.length:=by simpa using hi
  obtain⟨d,hd,is⟩:=r.get' (y vs hs);exact⟨d,by rw[EW hi'];exact hd,is,Ev.refl,rs⟩
 stop:=λst H tk rs hc=>by
  obtain⟨vs,hs,r⟩:=rs.rd hc;exact⟨⟨vs,hs,r.len.symm⟩,by simp⟩
variable {tg:AS}
def cq5(ha:PE X a (up X.K ta)):PI X tg a (upI X.K λenv st k=>ta env st λd st1=>(∃ds,d=.tup ds∧k ds (λ_=>True) st1)∨(∃a ds,d=.ref a∧rdS st1 a ds∧k ds (λst'=>rdS st' a ds) st1)):=by
 intro pins s σ H R I q;obtain⟨env,st,kk,hE,hS,ht,hq⟩:=q;refine thn (ha pins s σ H (λv H1=>∃d st1,Ev st H st1 H1∧IsD X.K H1 d v∧RelS X.K st1 H1∧((∃ds,d=.tup ds∧kk ds (λ_=>True) st1)∨(∃a ds,d=.ref a∧rdS st1 a ds∧kk ds (λst'=>rdS st' a ds) st1))) I ⟨env,st,_,hE,hS,ht,λv d H1 st1 ev is rs q1=>⟨d,st1,ev,is,rs,q1⟩⟩) λu s1⟨v,H1,I1,r1,d,st1,ev,is,rs,q1⟩=>?_
 rcases q1 with⟨ds,rfl,q1⟩|⟨q,ds,rfl,hr,q1⟩
 ·obtain⟨q,vs,rfl,hsq,r⟩:=is.tup_inv;cases r1;obtain⟨its,rv,pl,hz⟩:=I1.tuple hsq;refine EE (show s1.heap.IsTuple q its.toArray from pl) ?_;refine⟨s1.heap.objs.size,[s1.heap.objs.size],_,_,H1,rfl,I1.kept (t':=s1.toks) λb o e=>AQ _ e,b05 q _,⟨_,Ap _ rfl,rfl,rfl⟩,λb hb=>?_,hq ds _ st1 H1 _ ev rs (cp7 hsq r) q1⟩;have e:b=s1.heap.objs.size:=by simpa using hb
  subst e;exact I1.fpOk (AU _) (I1.hok.fresh (AU _))
 ·rw[is.ref_inv]at r1;cases r1;obtain⟨vs,hsq,r⟩:=rs.rd hr;obtain⟨its,rv,pl,hz⟩:=I1.list hsq;refine wpAny_pyIter_list pl.isList ?_;refine⟨s1.heap.objs.size,[s1.heap.objs.size],_,_,H1,rfl,I1.kept (t':=s1.toks) λb o e=>AQ _ e,b25 q _,⟨_,Ap _ rfl,rfl,rfl⟩,λb hb=>?_,hq ds _ st1 H1 _ ev rs cp2 q1⟩;have e:b=s1.heap.objs.size:=by simpa using hb
  subst e;exact I1.fpOk (AU _) (I1.hok.fresh (AU _))
def cv4(hg:Gl X "range")(hm:X.mg "range"=AE)(ha:PE X a (up X.K ta))(hs:∀e p,a≠.Starred e p):PI X tg (.Call (.Name "range" p) [a] [] pos) (upI X.K λenv st k=>ta env st λd st1=>∃j:Int,d=.int j∧(-(2^62)<=j∧j<2^62)∧k (t0 0 j.toNat) (λ_=>True) st1):=
 PI.imp (b38 hg hm (F6 ha hs) (by rw[l7 hs];rfl)) λσ H R q=>by
  obtain⟨env,st,kk,hE,hS,ht,hq⟩:=q;refine⟨env,st,(λds st1=>match ds with|[d]=>∃j:Int,d=.int j∧(-(2^62)<=j∧j<2^62)∧kk (t0 0 j.toNat) (λ_=>True) st1|_=>False),hE,hS,ht,λvs ds H' st' ev is hl rs q1=>?_⟩
  match ds,hl with
  |[d],_=>
   obtain⟨v,ws,rfl,i1,i2⟩:=is.inv_cons;rw[i2.inv_nil];obtain⟨j,rfl,hj,q1⟩:=q1;exact⟨j,by rw[i1.int_inv],hj.1,hj.2,hq _ _ st' H' _ ev rs bc2 q1⟩
def ci5(hg:Gl X "range")(hm:X.mg "range"=AE)(ha:PE X a (up X.K ta))(hb:PE X b (up X.K tb))(hs:∀e p,a≠.Starred e p)(hs':∀e p,b≠.Starred e p):PI X tg (.Call (.Name "range" p) [a,b] [] pos) (upI X.K λenv st k=>ta env st λd st1=>tb env st1 λe st2=>∃i j:Int,d=.int i∧e=.int j∧(-(2^62)<=i∧i<2^62∧-(2^62)<=j∧j<2^62)∧k (t0 i (j-i).toNat) (λ_=>True) st2):=
 PI.imp (b31 hg hm (bj1 ha hb hs hs') (by rw[l7 hs,l7 hs'];rfl) (by rw[l7 hs'];rfl)) λσ H R q=>by
  obtain⟨env,st,kk,hE,hS,ht,hq⟩:=q;refine⟨env,st,(λds st1=>match ds with|[d,e]=>∃i j:Int,d=.int i∧e=.int j∧(-(2^62)<=i∧i<2^62∧-(2^62)<=j∧j<2^62)∧kk (t0 i (j-i).toNat) (λ_=>True) st1|_=>False),hE,hS,ht,λvs ds H' st' ev is hl rs q1=>?_⟩
  match ds,hl with
  |[d,e],_=>
   obtain⟨v,ws,rfl,i1,i2⟩:=is.inv_cons;obtain⟨w,ws',rfl,i3,i4⟩:=i2.inv_cons;rw[i4.inv_nil];obtain⟨i,j,rfl,rfl,hj,q1⟩:=q1;exact⟨i,j,by rw[i1.int_inv,i3.int_inv],hj,hq _ _ st' H' _ ev rs bc2 q1⟩
def cc2{elts:List AS}{k0:Nat}{tp:Pos}(hg:Gl X "enumerate")(hm:X.mg "enumerate"=AE)(ha:PE X a (up X.K ta))(hs:∀e p,a≠.Starred e p):PI X (.Tuple elts k0 tp) (.Call (.Name "enumerate" p) [a] [] pos)
  (upI X.K λenv st k=>ta env st λd st1=>(∃ds,d=.tup ds∧k (o6 0 ds) (λ_=>True) st1)∨(∃a ds,d=.ref a∧rdS st1 a ds∧k (o6 0 ds) (λst'=>rdS st' a ds) st1)):=by
 have hst:Ak [a] X.env=[(AG,eval a X.env)]:=by rw[l7 hs];rfl
 intro pins s σ H R I q;obtain⟨env,st,kk,hE,hS,ht,hq⟩:=q;have hA:=F6 ha hs;refine IS (F5 I hg hm L2.ar7 (BB (thn (hA pos pins s σ H (λvs H1=>∃v d st1,vs=[v]∧Ev st H st1 H1∧IsD X.K H1 d v∧RelS X.K st1 H1∧((∃ds,d=.tup ds∧kk (o6 0 ds) (λ_=>True) st1)∨(∃a ds,d=.ref a∧rdS st1 a ds∧kk (o6 0 ds) (λst'=>rdS st' a ds) st1))) I
  ⟨env,st,(λds st1=>match ds with|[d]=>(∃ds,d=.tup ds∧kk (o6 0 ds) (λ_=>True) st1)∨(∃a ds,d=.ref a∧rdS st1 a ds∧kk (o6 0 ds) (λst'=>rdS st' a ds) st1)|_=>False),hE,hS,ht,λvs ds H' st' ev is hl rs q1=>by
   match ds,hl with
   |[d],_=>
    obtain⟨v,ws,rfl,i1,i2⟩:=is.inv_cons;rw[i2.inv_nil];exact⟨v,d,st',rfl,ev,i1,rs,q1⟩⟩) λus s1⟨vs,H1,I1,r1,v,d,st1,e1,ev,is,rs,q1⟩=>?_) hst rfl))
 subst e1;obtain⟨u,rfl,ru⟩:=r1.one
 rcases q1 with⟨ds,rfl,q1⟩|⟨q,ds,rfl,hr,q1⟩
 ·obtain⟨l,vs,rfl,hsq,r⟩:=is.tup_inv;cases ru;exact b87 I1 hsq (hq _ _ st1 H1 _ ev rs (a56 λst H tk rs _=>⟨vs,tk.1.1 _ _ hsq,r.mono tk⟩) q1)
 ·rw[is.ref_inv]at ru;cases ru;obtain⟨vs,hsq,r⟩:=rs.rd hr;exact b97 I1 hsq (hq _ _ st1 H1 _ ev rs (a56 λst H tk rs hc=>rs.rd hc) q1)
def cr8(hg:Gl X "reversed")(hm:X.mg "reversed"=AE)(ha:PE X a (up X.K ta))(hs:∀e p,a≠.Starred e p):PI X tg (.Call (.Name "reversed" p) [a] [] pos) (upI X.K λenv st k=>ta env st λd st1=>∃a ds,d=.ref a∧rdS st1 a ds∧k ds.reverse (λst'=>rdS st' a ds) st1):=
 PI.imp (ce5 hg hm (F6 ha hs) (by rw[l7 hs];rfl)) λσ H R q=>by
  obtain⟨env,st,kk,hE,hS,ht,hq⟩:=q;refine⟨env,st,(λds st1=>match ds with|[d]=>∃a ds,d=.ref a∧rdS st1 a ds∧kk ds.reverse (λst'=>rdS st' a ds) st1|_=>False),hE,hS,ht,λvs ds H' st' ev is hl rs q1=>?_⟩
  match ds,hl with
  |[d],_=>
   obtain⟨v,ws,rfl,i1,i2⟩:=is.inv_cons;rw[i2.inv_nil];obtain⟨q,ds,rfl,hr,q1⟩:=q1;obtain⟨vs,hsq,r⟩:=rs.rd hr;exact⟨q,vs,by rw[i1.ref_inv],hsq,by rw[<-r.len];exact hq _ _ st' H' _ ev rs cu0 q1⟩
end
end Ek
namespace PySem
open PyProof.Rows
namespace F
def as3:Manifest.owners.lookup (String.ofList ['d','e','s','r','e','v','e','r'].reverse)=AA Manifest.sig_reversed:=by kernel_rfl
def ek_slot_rev_next:Slot "reversed" "__next__" "reversed.__next__":=
 .of (owner:="reversed") (n:="__next__") (by rw[Cy,By];kernel_rfl) (by decide+kernel) (by decide+kernel) (by decide+kernel)
  (by first|exact .inl (by decide+kernel)|exact .inr (by decide+kernel)) (by rw[EG];kernel_rfl)
def bv1:Slot "reversed" "__init__" "object.__init__":=
 .of (owner:="object") (n:="__init__") (by rw[Cy,By];kernel_rfl) (by decide+kernel) (by decide+kernel) (by decide+kernel)
  (by first|exact .inl (by decide+kernel)|exact .inr (by decide+kernel)) (by rw[EG];kernel_rfl)
def ek_slot_rev_iter:Slot "reversed" "__iter__" "reversed.__iter__":=
 .of (owner:="reversed") (n:="__iter__") (by rw[Cy,By];kernel_rfl) (by decide+kernel) (by decide+kernel) (by decide+kernel)
  (by first|exact .inl (by decide+kernel)|exact .inr (by decide+kernel)) (by rw[EG];kernel_rfl)
def ek_entry_rev_next:Ie table "reversed.__next__"=AA Cf.«reversed.__next__»:=Jt (by kernel_rfl)
def ek_entry_rev_iter:Ie table "reversed.__iter__"=AA Cf.«dict_keyiterator.__iter__»:=
 Kk (id':="dict_keyiterator.__iter__") (by kernel_rfl) (by first|rfl|decide+kernel|(unfold String.splitOn;simp +decide [String.splitOnAux])) (by decide+kernel) (by kernel_rfl)
def ek_args_rev_next(a:AF):Kl "reversed.__next__" ⟨[a],[]⟩:=by
 unfold Kl;rw[signature?_of (id:="reversed.__next__") (n:=['_','_','t','x','e','n','_','_']) (o:=['d','e','s','r','e','v','e','r']) (by kernel_rfl) as3];kernel_rfl
def ek_args_rev_iter(a:AF):Kl "reversed.__iter__" ⟨[a],[]⟩:=by
 unfold Kl;rw[signature?_of (id:="reversed.__iter__") (n:=['_','_','r','e','t','i','_','_']) (o:=['d','e','s','r','e','v','e','r']) (by kernel_rfl) as3];kernel_rfl
def ek_called_reversed:TypeCalled "reversed" "reversed.__new__" "object.__init__":=
 ⟨by decide+kernel,by decide+kernel,⟨_,_,mro_reversed⟩,made_reversed,by decide+kernel,by rw[EG];kernel_rfl,bv1⟩
def ek_tuple_no_rev:Fv (.type "tuple") "__reversed__"=pure AE:=by rw[Cy,By];kernel_rfl
def ek_sub_tuple_dict:isSubtype (.type "tuple") (.type "dict")=pure AG:=by rw[EG];kernel_rfl
end F
noncomputable def aa6(l:AI)(i:Int):Obj:={cls:=.type "reversed",data:=.fields #[.ref l,Cm i]}
def bz1(l:AI)(items:Array AF)(hfit:(items.size:Int)<2^63):
  IY (Cf.«reversed.__new__» ⟨[.type "reversed",.ref l],[]⟩) (λ_ R s=>HJ s.heap l items∧∀tk,R (.ok (.ret (.ref s.heap.objs.size))) {s with heap:=s.heap.push (aa6 l ((items.size:Int)-1)),toks:=tk}):=
 .of_wp λprog w A R s h=>by
  obtain⟨hp,g,d,tk,os⟩:=s;obtain⟨hl,h⟩:=h;have hsub:=F.sub_reversed_self;have hty:Shared.TypeIs ⟨hp,g,d,tk,os⟩ (.ref l) "tuple":=hl.typeIs;have f1:=F.ek_tuple_no_rev;have f2:=F.ek_sub_tuple_dict;have f3:=EC.lookup
  wp_walk using(CA hty F.ek_tuple_no_rev),(Eb hty F.ek_sub_tuple_dict),(CA hty EC.lookup),(len_tuple hl hfit)
  exact⟨_,rfl,h _⟩
end PySem
namespace PySem
open PyProof.Rows
variable{l:AI}
noncomputable def D6(h:BC)(a l:AI)(i:Int):Prop:=∃o,h.get? a=AA o∧o.cls=.type "reversed"∧o.data=.fields #[.ref l,Cm i]
section
variable {prog:Ai} {w:Ax} {A:BL} {E:AF->AJ->Prop} {s:AJ}
def D6.typeIs{a:AI}{i:Int}(x:D6 s.heap a l i):s.TypeIs (.ref a) "reversed":=let⟨o,ho,hc,_⟩:=x;⟨o,ho,hc⟩
def D6.stay{h h':BC}{a:AI}{i:Int}(x:D6 h a l i)(e:∀o,h.get? a=AA o->h'.get? a=AA o):D6 h' a l i:=let⟨o,ho,r⟩:=x;⟨o,e _ ho,r⟩
def b34{items:Array AF}{Q:AF->AJ->Prop}(hl:HJ s.heap l items)(hfit:(items.size:Int)<2^63)
  (h:∀tk,Q (.ref s.heap.objs.size) {s with heap:=s.heap.push (aa6 l ((items.size:Int)-1)),toks:=tk}):AT (model prog w) A (call (.type "reversed") [.ref l]) Q E s:=by
 refine callType_new F.ek_called_reversed (by decide) (F.typeCall_reversed_1 _) (F.newCall_reversed_1 _) (λobj=>IF obj _) F.entry_reversed_new (bz1 l items hfit) ⟨hl,λtk=>?_⟩;exact⟨⟨_,Ap _ rfl,rfl⟩,h tk⟩
end
end PySem
namespace PySem
open PyProof.Rows
section
variable {prog:Ai} {w:Ax} {A:BL} {E:AF->AJ->Prop} {s:AJ}
def at0{it l:AI}{i:Int}{Q:AF->AJ->Prop}(hit:D6 s.heap it l i)(h:Q (.ref it) s):AT (model prog w) A (Hu (.ref it)) Q E s:=by
 refine wpAny_pyIter_slot hit.typeIs F.ek_slot_rev_iter (BI F.ek_slot_rev_iter hit.typeIs F.ek_entry_rev_iter ?_ (F.ek_args_rev_iter _));show AT _ _ (ret (.ref it)) _ _ s;exact AK ⟨_,rfl,"reversed",_,hit.typeIs,F.ek_slot_rev_next.lookup,h⟩
end
end PySem
namespace PySem
open PyProof.Rows
end PySem
namespace PySem
open PyProof.Rows
end PySem
namespace L2
open PySem PySem.Spec PyProof.Rows
end L2
namespace Ek
open PySem PySem.Spec PyProof.Rows L2
variable [Tbs]
end Ek
namespace PySem
open PyProof.Rows
section
variable {prog:Ai} {w:Ax} {A:BL} {E:AF->AJ->Prop} {s:AJ}
def bv0{it l:AI}{i:Nat}{items:Array AF}{x:AF}{Q:Option AF->AJ->Prop}(hit:D6 s.heap it l (i:Int))(hl:HJ s.heap l items)(hx:items[i]?=AA x)(hfit:(items.size:Int)<2^63)
  (hQ:∀h' tk,D6 h' it l ((i:Int)-1)->Az it s.heap h'->Q (AA x) {s with heap:=h',toks:=tk}):AT (model prog w) A (EB (.ref it)) Q E s:=by
 obtain⟨o,ho,hc,hd⟩:=id hit;have hi:i<items.size:=(Array.getElem?_eq_some_iff.mp hx).1;unfold EB;refine AD (EU (BK (name:=Ab "__next__") hit.typeIs F.ek_slot_rev_next
  (BI F.ek_slot_rev_next hit.typeIs F.ek_entry_rev_next ?_ (F.ek_args_rev_next _))))
 unfold Cf.«reversed.__next__»;refine AD (FT (a:=(An it,[])) rfl ?_)
 try dsimp only
 refine AD (BG ho hd (x:=.ref l) rfl ?_);refine AD (BG ho hd (x:=Cm (i:Int)) rfl ?_);show AT _ _ (if(i:Int)<0 then _ else _) _ _ s;rw[if_neg (by lia)]
 try dsimp only
 refine AD (CA hl.typeIs EC.lookup ?_);show AT _ _ (if(Option.isNone (AA _))=AC then _ else _) _ _ s;rw[if_neg (by simp)]
 try dsimp only
 refine AD (Gi ?_);refine AD (EU (getItem_tuple (j:=i) (x:=x) (s:={s with toks:=s.toks+1}) hl (by lia) (by lia) ?_ hx ?_))
 ·unfold Hq;simp;lia
 try dsimp only
 refine AD (BG ho hd (x:=Cm (i:Int)) rfl ?_);show AT _ _ (Km (.ref it) 1 (Cm ((i:Int)-1))>>=_) _ _ _;refine AD (ED ho hd (by simp) ?_);refine AK ⟨x,rfl,AK (hQ _ _ ?_ (CQ ..))⟩;exact⟨_,Ed _ ho (Eg (CN hd _)),(IN ..).trans hc,by
  rw[CN hd];simp⟩
def bv6{it l:AI}{Q:Option AF->AJ->Prop}(hh:A.handled=AE)(hit:D6 s.heap it l (-1))
  (hQ:∀h',Ei it s.heap h'->Q AE {s with heap:=h'}):AT (model prog w) A (EB (.ref it)) Q E s:=by
 obtain⟨o,ho,hc,hd⟩:=id hit;unfold EB;refine AD (EU (BK (name:=Ab "__next__") hit.typeIs F.ek_slot_rev_next
  (BI F.ek_slot_rev_next hit.typeIs F.ek_entry_rev_next ?_ (F.ek_args_rev_next _))))
 unfold Cf.«reversed.__next__»;refine AD (FT (a:=(An it,[])) rfl ?_)
 try dsimp only
 refine AD (BG ho hd (x:=.ref l) rfl ?_);refine AD (BG ho hd (x:=Cm (-1)) rfl ?_);show AT _ _ (if(-1:Int)<0 then _ else _) _ _ s;rw[if_pos (by decide)];refine AD (DU ?_);refine AD (AD (ED ho hd (by simp) ?_));refine ED (Ed _ ho (Eg (CN hd _))) (CN hd _) (by simp) ?_;refine AD ?_;show AT _ _ (Kg (.type "StopIteration") []>>=_) _ _ _;refine AD ?_;simp only[Kg,Kh];refine AD (BY ?_ (by size_fits));refine AD (m:=FR _ _) (FT (a:=Bf) (by first|rfl|(simp only[FR];rfl)) ?_);refine BY ?_ (by size_fits);simp only[raiseNew];refine AD (wpAny_handled ?_)
 first|rw[show A.in1.handled=AE from hh]|rw[hh]
 refine AD (AK (wpAny_throw ?_));refine AD (Eb (T:="StopIteration") (b:=AC) ⟨_,Ap _ rfl,rfl⟩ Ko ?_);exact AK (hQ _ ((((CQ ..).extBut.trans (CQ ..).extBut).push _).push _))
end
end PySem
namespace L2
open PySem PySem.Spec PyProof.Rows
noncomputable def Itw(K:AO)(a:AI)(n:Nat):It:=
 ⟨λi H=>(∃xs,SqT K H a xs∧xs.length=n)∧i<n,λi H x H'=>H'=H∧∀xs,SqT K H a xs->xs[n-1-i]?=AA x,λi H=>(∃xs,SqT K H a xs∧xs.length=n)∧i=n⟩
def b24{P:Ai}{w:Ax}{K:AO}{tg:AS}(a it:AI)(n:Nat):Turn P w K tg (Itw K a n) [it] it (λi h=>D6 h it a ((n:Int)-1-(i:Int))) where
 mem:=by simp
 obj:=λi h st b hb=>by
  obtain⟨o,e,c,d⟩:=st;rw[show b=it by simpa using hb];exact⟨o,e,λv z=>by rw[d]at z;cases z⟩
 keep:=λi h h' st k=>st.stay λo e=>k it (by simp) o e
 item:=by
  intro X hP hw hK hc i pins s σ H E I hf st hg;subst hP hw hK;obtain⟨⟨xs,hq,hn⟩,hi⟩:=hg;subst hn;obtain⟨its,rv,pl,hz⟩:=I.tuple hq;obtain⟨x,hx⟩:∃x,xs[xs.length-1-i]?=AA x:=⟨_,AL (by lia)⟩;obtain⟨u,hu,ru⟩:=rv.get hx;obtain⟨f0,f1,f2,f3,f4,f5⟩:=hf it (by simp);have hfit:(its.toArray.size:Int)<2^63:=by
   rw[AY,<-rv.length];have hsl:sizeLine<2^62:=by decide+kernel
   lia
  rw[show(xs.length:Int)-1-(i:Int)=((xs.length-1-i:Nat):Int) by lia]at st;refine bv0 st pl (x:=u) (by simpa using hu) hfit λh' tk st' sb=>?_;have I1:Inv X pins σ H {s with heap:=h',toks:=tk}:=I.turned (t':=tk) (λb o hb e=>(sb.2 b hb).trans e) f0 f1 f3 f4 f5;obtain⟨o,e',c,d⟩:=id st';rw[show((xs.length-1-i:Nat):Int)-1=(xs.length:Int)-1-((i+1:Nat):Int) by lia]at st';exact⟨u,rfl,W5 (s:={s with heap:=h',toks:=tk}) e' c d (by decide) ⟨x,H,I1,ru,⟨rfl,λys hy=>by rw[I.tuple_inj hy hq];exact hx⟩,st',λb hb=>(hf b hb).1⟩⟩
 done:=by
  intro X hP hw hK hc i pins s σ H E I hf st hg;subst hP hw hK;obtain⟨f0,f1,f2,f3,f4,f5⟩:=hf it (by simp);rw[show(n:Int)-1-(i:Int)=-1 by have:=hg.2;lia]at st;exact bv6 (I.ok.hd hc) st λh' eb=>⟨rfl,I.turned (t':=s.toks) (λb o hb e=>eb b o hb e) f0 f1 f3 f4 f5⟩
 self:=λ_ _ _ _ _ st h=>at0 st h
end L2
namespace Ek
open PySem PySem.Spec PyProof.Rows L2
variable [Tbs]
section
variable {K:AO}
def cd5{q:AI}{ds:List D}{vs:List V}{H1:Hp}(hq:SqT K H1 q vs)(r:IsDs K H1 ds vs):ItOk K H1 (Itw K q ds.length) ds.reverse (λ_=>True) where
 go:=λi st H tk rs _ hi=>⟨⟨vs,tk.1.1 _ _ hq,r.len.symm⟩,by simpa using hi⟩
 yld:=λi st H x H' tk rs _ hi y=>by
  obtain⟨rfl,y⟩:=y;have hi':i<ds.length:=by simpa using hi
  obtain⟨d,hd,is⟩:=r.get' (y vs (tk.1.1 _ _ hq));exact⟨d,by rw[EW hi'];exact hd,is.mono tk,Ev.refl,rs⟩
 stop:=λst H tk rs _=>⟨⟨vs,tk.1.1 _ _ hq,r.len.symm⟩,by simp⟩
end
section
variable {X:Cx} {a tg:AS} {ta:DT} {pos p:Pos}
def ci3(hg:Gl X "reversed")(hm:X.mg "reversed"=AE)(ha:PE X a (up X.K ta))(hs:∀e p,a≠.Starred e p):
  PI X tg (.Call (.Name "reversed" p) [a] [] pos) (upI X.K λenv st k=>ta env st λd st1=>∃ds,d=.tup ds∧k ds.reverse (λ_=>True) st1):=by
 have hst:Ak [a] X.env=[(AG,eval a X.env)]:=by rw[l7 hs];rfl
 intro pins s σ H R I q;obtain⟨env,st,kk,hE,hS,ht,hq⟩:=q;refine IS (F5 I hg hm L2.as0 (BB (thn (F6 ha hs pos pins s σ H (λvs H1=>∃v ds st1,vs=[v]∧Ev st H st1 H1∧IsD X.K H1 (.tup ds) v∧RelS X.K st1 H1∧kk ds.reverse (λ_=>True) st1) I
  ⟨env,st,(λds st1=>match ds with|[d]=>∃ds,d=.tup ds∧kk ds.reverse (λ_=>True) st1|_=>False),hE,hS,ht,λvs ds H' st' ev is hl rs q1=>?_⟩) λus s1 hh=>?_) hst rfl))
 ·match ds,hl with
  |[d],_=>
   obtain⟨v,ws,rfl,i1,i2⟩:=is.inv_cons;rw[i2.inv_nil];obtain⟨ds,rfl,q1⟩:=q1;exact⟨v,ds,st',rfl,ev,i1,rs,q1⟩
 obtain⟨vs,H1,I1,r1,v,ds,st1,e1,ev,is,rs,q1⟩:=hh;subst e1;obtain⟨u,rfl,ru⟩:=r1.one;obtain⟨l,vs,rfl,hsq,r⟩:=is.tup_inv;cases ru;obtain⟨its,rv,pl,hz⟩:=I1.tuple hsq;have hlen:its.toArray.size=vs.length:=by rw[AY,<-rv.length]
 have hfit:(its.toArray.size:Int)<2^63:=by
  rw[hlen];have hsl:sizeLine<2^62:=by decide+kernel
  lia
 refine b34 pl hfit λtk=>?_;rw[hlen];have hit:D6 (s1.heap.push (aa6 l ((vs.length:Int)-1))) s1.heap.objs.size l ((vs.length:Int)-1-((0:Nat):Int)):=⟨_,Ap _ rfl,rfl,by rw[show(vs.length:Int)-1-((0:Nat):Int)=(vs.length:Int)-1 by lia];rfl⟩;refine at0 (s:={s1 with heap:=s1.heap.push (aa6 l ((vs.length:Int)-1)),toks:=tk}) hit ?_;refine⟨s1.heap.objs.size,[s1.heap.objs.size],_,_,H1,rfl,I1.kept (t':=tk) λb o e=>AQ _ e,b24 l _ vs.length,hit,λb hb=>?_,?_⟩
 ·rw[show b=s1.heap.objs.size by simpa using hb];exact I1.fpOk (AU _) (I1.hok.fresh (AU _))
 ·rw[<-r.len];exact hq _ _ st1 H1 _ ev rs (cd5 hsq r) q1
end
end Ek
namespace PySem
variable{b:Bool}{h:BC}{l it:AI}{xs:Array AF}{i:Nat}
noncomputable def A5(b:Bool)(h:BC)(l:AI)(xs:Array AF):Prop:=match b with|true=>h.IsTuple l xs|false=>h.IsList l xs
noncomputable def z6(b:Bool)(h:BC)(it l:AI)(i:Nat):Prop:=match b with|true=>h.IsTupleIter it l i|false=>h.IsListIter it l i
def A5.stay{h':BC}(x:A5 b h l xs)(k:∀o,h.get? l=AA o->h'.get? l=AA o):A5 b h' l xs:=by
 cases b with
 |true=>obtain⟨o,ho,r⟩:=x;exact⟨o,k o ho,r⟩
 |false=>exact Heap.IsList.at x k
def z6.stay{h':BC}(x:z6 b h it l i)(k:∀o,h.get? it=AA o->h'.get? it=AA o):z6 b h' it l i:=by
 cases b with
 |true=>obtain⟨o,ho,r⟩:=x;exact⟨o,k o ho,r⟩
 |false=>exact Heap.IsListIter.at x k
def z6.obj(x:z6 b h it l i):∃o,h.get? it=AA o∧∀v,o.data≠.cell v:=by
 cases b with
 |true=>obtain⟨o,ho,hc,hd⟩:=x;exact⟨o,ho,λv z=>by rw[hd]at z;cases z⟩
 |false=>obtain⟨o,ho,hc,hd⟩:=x;exact⟨o,ho,λv z=>by rw[hd]at z;cases z⟩
def A5.lt(x:A5 b h l xs):l<h.objs.size:=by
 cases b with
 |true=>obtain⟨o,ho,_⟩:=x;exact Au ho
 |false=>obtain⟨o,ho,_⟩:=x;exact Au ho
section
variable {prog:Ai} {w:Ax} {A:BL} {E:AF->AJ->Prop} {s:AJ}
def cc7{x:AF}{Q:AF->AJ->Prop}(I:z6 b s.heap it l i)(L:A5 b s.heap l xs)(hx:xs[i]?=AA x)
  (q:∀h',z6 b h' it l (i+1)->Az it s.heap h'->Q x {s with heap:=h'}):AT (model prog w) A (BZ (.ref it)) Q E s:=by
 cases b with
 |true=>exact ar3 I L hx q
 |false=>exact wpAny_nextOf_list_item I L hx q
def cw6{Q:AF->AJ->Prop}(hh:A.handled=AE)(I:z6 b s.heap it l i)(L:A5 b s.heap l xs)(hx:xs[i]?=AE)
  (q:∀h' e,Ei it s.heap h'->(∃o,h'.get? e=AA o∧o.cls=.type "StopIteration")->E (.ref e) {s with heap:=h'}):AT (model prog w) A (BZ (.ref it)) Q E s:=by
 cases b with
 |true=>exact ar4 hh I L hx q
 |false=>exact wpAny_nextOf_list_end hh I L hx q
def b04{a:AI}{Q:Option Obj->AJ->Prop}(h:Q (s.heap.get? a) s):AT (model prog w) A (Ig a) Q E s:=λΓ p _=>by
 unfold Ig;rw[Sem.wp_loadIfAlive];exact h
end
end PySem
namespace PySem
end PySem
namespace L2
open PySem PySem.Spec PyProof.Rows
section
variable {X:Cx} {pins:List (AI×Obj)} {σ:St} {H:Hp} {s:AJ}
noncomputable def SqB(b:Bool)(K:AO)(H:Hp)(a:AI)(xs:List V):Prop:=match b with|true=>SqT K H a xs|false=>SqL K H a xs
def Inv.seqB{b:Bool}{a:AI}{xs:List V}(I:Inv X pins σ H s)(h:SqB b X.K H a xs):∃its:List AF,f7 xs its∧A5 b s.heap a its.toArray∧xs.length<=sizeLine:=by
 cases b with
 |true=>obtain⟨its,rv,pl,hz⟩:=I.tuple h;exact⟨its,rv,show s.heap.IsTuple a its.toArray from pl,hz⟩
 |false=>obtain⟨its,rv,pl,hz⟩:=I.list h;exact⟨its,rv,pl.isList,hz⟩
end
end L2
namespace L2
open PySem PySem.Spec PyProof.Rows
section
variable {X:Cx}
noncomputable def c58:V->List V->Hp->VK->Prop:=λx vs H Q=>∃l xs,x=.ref l∧vs=[]∧H l=AA (.lst xs)∧Q .non (upd H l (.lst xs.reverse))
def cs3:MtM X "list.reverse" c58:=by
 intro pins s σ H x vs v us Q I rx rv h;obtain⟨l,xs,rfl,rfl,hH,q⟩:=h;cases rx;have hus:=rv.zero;subst hus;obtain⟨z,its,n,r,hl,e⟩:=I.lstM hH;refine CU F.slot_list_reverse ⟨_,e,rfl⟩ F.entry_list_reverse (F.args_list_reverse_1 _) (AutoSeq1.list_reverse_list_0 l its.toArray n (by rw[AY];lia)) ⟨e,?_⟩;refine⟨.non,_,I.lset (its':=its.reverse) hH e ?_ r.reverse ?_,rfl,q⟩
 ·simp
 ·rw[Ez];lia
end
end L2
namespace Ek
open PySem PySem.Spec PyProof.Rows L2
variable [Tbs]
section
variable {X:Cx} {a:AS} {ta:DT} {pos:Pos}
def cf9{apos:Pos}(ha:PE X a (up X.K ta))(hbase:∀i p p',a≠.Call (.Name i p) [] [] p')(hline:(apos.endLine==pos.line)=AC):
  PE X (.Call (.Attribute a "reverse" apos) [] [] pos) (up X.K λenv st Q=>ta env st λx st1=>X6 x st1 Q):=
 PE.imp (bi3 PySem.F.plainAttrs_list PySem.F.slot_list_reverse PySem.F.type_list_reverse cs3 ha (A8 hbase) hline) λσ H Q q=>up1 (f:=X6) q λv d H' st' Qd is rs ht hq=>by
  cases d<;>first|exact AZ ht|skip
  obtain⟨ds,hr,ht⟩:=ht;obtain⟨vs,hH,r⟩:=rs.lst hr;rw[is.ref_inv];exact⟨.inl ⟨rfl,vs,.inl (.inl hH)⟩,_,vs,rfl,rfl,hH,hq _ _ _ (b0 st' _ (.lst ds.reverse)) (Ev.put hr) .non (rs.putOld hH r.rev) ht⟩
end
end Ek
namespace Ek
open PySem PySem.Spec PyProof.Rows L2
variable [Tbs]
end Ek
namespace PySem
end PySem
namespace Ek
open PySem PySem.Spec PyProof.Rows L2
variable [Tbs]
end Ek
namespace Ek
open PySem PySem.Spec PyProof.Rows L2
variable [Tbs]
variable{x:List BR}{H:Hp}{pos':Pos}
section
variable {X:Cx} {a b c:AS} {ta tb tc:DT} {pos p:Pos} {K:AO}
noncomputable def upG(K:AO)(t:Tg):TG:=λv σ H Q=>∃d env k,IsD K H d v∧RelE K H env σ∧J5 t d env k∧∀env' σ',RelE K H env' σ'->k env'->Q σ' H
def _root_.L2.PG.imp{X:Cx}{x:AS}{t t':TG}(h:PG X x t)(i:∀v σ H Q,t' v σ H Q->t v σ H Q):PG X x t':=λpins s σ H v u Q I r q=>h pins s σ H v u Q I r (i v σ H Q q)
def cm3{i:Nat}{x:Str}(hN:X.N.Nodup)(hi:X.N[i]?=AA x)(hx:Loc X.env.scope x)(hf:X.fn x=AC∨X.env.scope.names.lookup x=AA .local):PG X (.Name x pos) (upG X.K (.n i)):=
 PG.imp (a71 hN hi hx hf) λv σ H Q q=>by
  obtain⟨d,env,k,is,hE,ht,hq⟩:=q;exact hq _ _ (hE.set is i) ht
noncomputable def X5:List Nat->TGs
 |[]=>bs6
 |i::is=>bn7 (an9 i) (X5 is)
theorem bd8{K:AO}{Q:L2.St->Hp->Prop}{k:i9->Prop}:∀(is:List Nat)(ds:List D)(vs:List V)(env:i9)(σ:L2.St),ds.length=is.length->IsDs K H ds vs->RelE K H env σ->k (O0 env is ds)->(∀env' σ',RelE K H env' σ'->k env'->Q σ' H)->X5 is vs σ H Q
 |[],[],vs,env,σ,_,r,hE,ht,hq=>⟨r.inv_nil,hq _ _ hE ht⟩
 |i::is,d::ds,vs,env,σ,hl,r,hE,ht,hq=>by
  obtain⟨v,ws,rfl,h1,h2⟩:=r.inv_cons;exact⟨v,ws,rfl,bd8 is ds ws _ _ (by simpa using hl) h2 (hE.set h1 i) ht hq⟩
 |[],d::ds,vs,env,σ,hl,_,_,_,_=>by simp at hl
 |i::is,[],vs,env,σ,hl,_,_,_,_=>by simp at hl
def cm5{es:List AS}{k0:Nat}{is:List Nat}(hc:X.calm=AC)(h:PGs X es (X5 is))(hn:(Bv es X.env).length=is.length)(hst:(Bv es X.env).findIdx? (·.1)=AE):PG X (.Tuple es k0 pos) (upG X.K (.tup is)):=
 PG.imp (ct6 hc h hn hst) λv σ H Q q=>by
  obtain⟨d,env,k,i1,hE,⟨ds,rfl,hl,ht⟩,hq⟩:=q;obtain⟨q,vs,rfl,hsq,r⟩:=i1.tup_inv;exact⟨q,vs,rfl,hsq,by rw[<-r.len];exact hl,bd8 is ds vs env σ hl r hE ht hq⟩
structure EndsR(K:AO)(st:Sto)(H:Hp)(Fd:DEnds)(F:Ends):Prop where
 nx:∀env σ H' st',Ev st H st' H'->RelE K H' env σ->RelS K st' H'->Fd.nx env st'->F.nx σ H'
 bk:∀env σ H' st',Ev st H st' H'->RelE K H' env σ->RelS K st' H'->Fd.bk env st'->F.bk σ H'
 ct:∀env σ H' st',Ev st H st' H'->RelE K H' env σ->RelS K st' H'->Fd.ct env st'->F.ct σ H'
 rt:t3 K st H Fd.rt F.rt
theorem EndsR.after{st st1:Sto}{H1:Hp}{Fd:DEnds}{F:Ends}(e:EndsR K st H Fd F)(ev:Ev st H st1 H1):EndsR K st1 H1 Fd F:=
 ⟨λenv σ H' st' ev'=>e.nx env σ H' st' (ev.trans ev'),λenv σ H' st' ev'=>e.bk env σ H' st' (ev.trans ev'),λenv σ H' st' ev'=>e.ct env σ H' st' (ev.trans ev'),e.rt.after ev⟩
noncomputable def upS(K:AO)(t:DS):TS:=λF σ H=>∃env st Fd,RelE K H env σ∧RelS K st H∧t Fd env st∧EndsR K st H Fd F
variable {t u:DS} {s1:BR} {i5:List BR}
def cs7:PSs X [] (upS X.K λF env st=>F.nx env st):=PSs.imp cm0 λF σ H⟨env,st,Fd,hE,hS,ht,hq⟩=>hq.nx env σ H st Ev.refl hE hS ht
def ce2(h1:PS X s1 (upS X.K t))(h2:PSs X i5 (upS X.K u)):PSs X (s1::i5) (upS X.K λF env st=>t {F with nx:=u F} env st):=
 PSs.imp (b92 h1 h2) λF σ H⟨env,st,Fd,hE,hS,ht,hq⟩=>⟨env,st,{Fd with nx:=u Fd},hE,hS,ht,λenv' σ' H' st' ev hE' hS' q=>⟨env',st',Fd,hE',hS',q,hq.after ev⟩,hq.bk,hq.ct,hq.rt⟩
def am7{i:Nat}{x:Str}(hN:X.N.Nodup)(hi:X.N[i]?=AA x)(hx:Loc X.env.scope x)(ha:PE X a (up X.K ta))(hs:Cb a (AA (.Name x pos')) pos.line X.env=pure AG)(hf:X.fn x=AC∨X.env.scope.names.lookup x=AA .local):
  PS X (.Assign [.Name x pos'] a pos) (upS X.K λF env st=>ta env st λd st1=>F.nx (env.set i (AA d)) st1):=
 PS.imp (cn1 hN hi hx ha hs hf) λF σ H⟨env,st,Fd,hE,hS,ht,hq⟩=>⟨env,st,_,hE,hS,ht,λv d H' st' ev is rs q=>hq.nx _ _ H' st' ev ((hE.mono (ev.tk hS)).set is i) rs q⟩
def cp8{o i v:AS}{to ti tv:DT}(hv:PE X v (up X.K tv))(ho:PE X o (up X.K to))(hi:PE X i (up X.K ti))
  (hsub:∀w,assign (.Subscript o i pos') X.env w=(do
   let ov <-holding [w] (eval o X.env)
   let iv <-holding [w,ov] (eval i X.env)
   Gr pos'
   holding [w,ov,iv] (JR ov iv w)
   release [w,ov,iv] [])) (hs:Fm [.Subscript o i pos'] v pos.line X.env=pure AG) (hw:swappedStores [.Subscript o i pos'] v X.env=pure AE) :
  PS X (.Assign [.Subscript o i pos'] v pos) (upS X.K λF env st=>tv env st λd st1=>to env st1 λx st2=>ti env st2 λy st3=>∃a j k ds,x=.ref a∧y=.int j∧st3 a=AA (.lst ds)∧ixN ds.length j=AA k∧F.nx env (b0 st3 a (.lst (ds.set k d)))):=
 PS.imp (cq0 hv (cw5 ho hi b94 hsub) hs hw rfl) λF σ H⟨env,st,Fd,hE,hS,ht,hq⟩=>⟨env,st,_,hE,hS,ht,λw d H1 st1 ev1 is1 rs1 q1=>
  ⟨env,st1,_,hE.mono (ev1.tk hS),rs1,q1,λov x H2 st2 ev2 is2 rs2 q2=>⟨env,st2,_,(hE.mono (ev1.tk hS)).mono (ev2.tk rs1),rs2,q2,λiv y H3 st3 ev3 is3 rs3 q3=>by
   obtain⟨q,j,k,ds,rfl,rfl,hr,hk,q3⟩:=q3;obtain⟨vs,hH,r⟩:=rs3.lst hr;have is1':=(is1.mono (ev2.tk rs1)).mono (ev3.tk rs2);refine⟨q,vs,j,k,(is2.mono (ev3.tk rs2)).ref_inv,is3.int_inv,hH,by rw[<-r.len];exact hk,?_⟩;exact hq.nx env σ _ _ (((ev1.trans ev2).trans ev3).trans (Ev.put hr)) ((((hE.mono (ev1.tk hS)).mono (ev2.tk rs1)).mono (ev3.tk rs2)).mono (TK.put hH)) (rs3.putOld hH (r.set is1' k)) q3⟩⟩⟩
def ce4{o v:AS}{to tv:DT}{f:Str}{C:Str->List Str}(hC:∀c Ca,Aw X.K AN c=AA (AA (.ref Ca))->f∈C c->Cls X.K Ca∧F7 X.K Ca f)(hv:PE X v (up X.K tv))(ho:PE X o (up X.K to))(hs:Cb v (AA (.Attribute o f pos')) pos.line X.env=pure AG):
  PS X (.Assign [.Attribute o f pos'] v pos) (upS X.K λF env st=>tv env st λd st1=>to env st1 λx st2=>∃p c fs,x=.ref p∧st2 p=AA (.ins c fs)∧f∈C c∧fs.length<1000∧F.nx env (b0 st2 p (.ins c (j9 f d fs)))):=
 PS.imp (cv7 ho hv hs) λF σ H q=>by
  obtain⟨env,st,Fd,hE,hS,ht,hq⟩:=q;refine⟨env,st,_,hE,hS,ht,λw d H1 st1 ev is rs q1=>?_⟩;refine⟨env,st1,_,hE.mono (ev.tk hS),rs,q1,λy x H2 st2 ev2 is2 rs2 q2=>?_⟩;obtain⟨p,c,fs,rfl,hs2,hf,hl,hn⟩:=q2;obtain⟨Ca,dx,vs,hH,hns,r⟩:=rs2.ins hs2;obtain⟨c1,c2⟩:=hC c Ca hns hf;have is1:=is.mono (ev2.tk rs);have tk:=TK.putI (K:=X.K) (o:=.ins Ca dx (v0 f w vs)) hH;refine⟨p,Ca,dx,vs,is2.ref_inv,hH,c1,c2,by rw[<-r.length];exact hl,?_⟩;refine hq.nx env σ _ _ ((ev.trans ev2).trans (Ev.put hs2)) (((hE.mono (ev.tk hS)).mono (ev2.tk rs)).mono tk) (rs2.putAny (ob:=.ins c (j9 f d fs)) tk ⟨Ca,dx,_,o9,hns,(r.put is1 f).mono tk⟩ (by rw[hH];exact λ_ z=>by cases z)) hn
def cx1(ha:PE X a (up X.K ta))(hs:Cb a AE pos.line X.env=pure AG):PS X (.Expr a pos) (upS X.K λF env st=>ta env st λ_ st1=>F.nx env st1):=
 PS.imp (cl4 ha hs) λF σ H⟨env,st,Fd,hE,hS,ht,hq⟩=>⟨env,st,_,hE,hS,ht,λv d H' st' ev is rs q=>hq.nx _ _ H' st' ev (hE.mono (ev.tk hS)) rs q⟩
def cn9(ha:PE X a (up X.K ta)):PS X (.Return (AA a) pos) (upS X.K λF env st=>ta env st F.rt):=
 PS.imp (cp1 ha) λF σ H⟨env,st,Fd,hE,hS,ht,hq⟩=>⟨env,st,_,hE,hS,ht,hq.rt⟩
def ck1:PS X (.Return AE pos) (upS X.K λF _ st=>F.rt .non st):=PS.imp ci0 λF σ H⟨env,st,Fd,hE,hS,ht,hq⟩=>hq.rt.here .non hS ht
def cf1:PS X (.Pass pos) (upS X.K λF env st=>F.nx env st):=PS.imp cj1 λF σ H⟨env,st,Fd,hE,hS,ht,hq⟩=>hq.nx env σ H st Ev.refl hE hS ht
def cg2:PS X (.Continue pos) (upS X.K λF env st=>F.ct env st):=PS.imp by1 λF σ H⟨env,st,Fd,hE,hS,ht,hq⟩=>hq.ct env σ H st Ev.refl hE hS ht
def cz8{tc:DB}{y:List BR}(hc:PT X c (upB X.K tc))(h1:PSs X x (upS X.K t))(h2:PSs X y (upS X.K u)):PS X (.If c x y pos) (upS X.K λF env st=>tc env st λk st1=>if k=AC then t F env st1 else u F env st1):=
 PS.imp (c16 hc h1 h2) λF σ H⟨env,st,Fd,hE,hS,ht,hq⟩=>⟨env,st,_,hE,hS,ht,λk H' st' ev rs q=>by
  cases k with
  |true=>exact⟨env,st',Fd,hE.mono (ev.tk hS),rs,q,hq.after ev⟩
  |false=>exact⟨env,st',Fd,hE.mono (ev.tk hS),rs,q,hq.after ev⟩⟩
def b84{tc:DB}(hp:GX (model X.prog X.w) X.A X.env X.xe)(hc:PT X c (upB X.K tc))(h1:PSs X x (upS X.K t)):PS X (.While c x [] pos) (upS X.K λF env st=>∃n,v5 tc t F n env st):=
 PS.imp (b65 hp hc h1) λF σ H⟨env,st,Fd,hE,hS,⟨n,ht⟩,hq⟩=>by
  refine⟨λm σ' H'=>∃env' st',RelE X.K H' env' σ'∧RelS X.K st' H'∧Ev st H st' H'∧v5 tc t Fd m env' st',⟨n,env,st,hE,hS,Ev.refl,ht⟩,?_⟩;rintro m σ1 H1 ⟨env1,st1,hE1,hS1,ev1,w1⟩;cases m with
  |zero=>exact w1.elim
  |succ m=>
   refine⟨env1,st1,_,hE1,hS1,w1,λk H2 st2 ev2 rs2 q2=>?_⟩;cases k with
   |false=>
    simp only[BO,if_false]at q2 ⊢;exact hq.nx env1 σ1 H2 st2 (ev1.trans ev2) (hE1.mono (ev2.tk hS1)) rs2 q2
   |true=>
    simp only[if_true]at q2 ⊢;refine⟨λσ' H'=>∃env' st',RelE X.K H' env' σ'∧RelS X.K st' H'∧Ev st H st' H'∧v5 tc t Fd m env' st',λσ' H' h=>⟨m,GL _,h⟩,?_⟩;have hq2:=hq.after (ev1.trans ev2);have ev12:=ev1.trans ev2;exact⟨env1,st2,_,hE1.mono (ev2.tk hS1),rs2,q2,λenv' σ' H' st' ev hE' hS' q=>⟨env',st',hE',hS',ev12.trans ev,q⟩,hq2.nx,λenv' σ' H' st' ev hE' hS' q=>⟨env',st',hE',hS',ev12.trans ev,q⟩,hq2.rt⟩
def cr0{tg iter:AS}{ti:i9->Sto->ItK->Prop}{g:Tg}(hp:GX (model X.prog X.w) X.A X.env X.xe)(hc:X.calm=AC)(hi:PI X tg iter (upI X.K ti))(hg:PG X tg (upG X.K g))(h1:PSs X x (upS X.K t))(hs:∀v,DH iter X.env v=pure v):
  PS X (.For tg iter x [] pos) (upS X.K λF env st=>ti env st λitems chk st1=>p7 chk g t F items env st1):=
 PS.imp (cw8 hp hc hi hg h1 hs) λF σ H⟨env,st,Fd,hE,hS,ht,hq⟩=>by
  refine⟨env,st,_,hE,hS,ht,λitems chk st1 H1 J ev1 rs1 ok q1=>?_⟩;refine⟨λi m σ' H'=>m=items.length-i∧i<=items.length∧∃env' st',RelE X.K H' env' σ'∧RelS X.K st' H'∧Ev st H st' H'∧TK X.K H1 H'∧p7 chk g t Fd (items.drop i) env' st',⟨items.length,by simp,BU _,env,st1,hE.mono (ev1.tk hS),rs1,ev1,TK.refl,q1⟩,?_⟩;rintro i m σ2 H2 ⟨rfl,hi,env2,st2,hE2,hS2,ev2,tk2,w2⟩
  by_cases hlt:i<items.length
  ·right
   rw[Dp hlt]at w2;obtain⟨hchk,w2⟩:=w2;refine⟨ok.go i st2 H2 tk2 hS2 hchk hlt,λσ' H'=>i+1<=items.length∧∃env' st',RelE X.K H' env' σ'∧RelS X.K st' H'∧Ev st H st' H'∧TK X.K H1 H'∧p7 chk g t Fd (items.drop (i+1)) env' st',λσ' H' h=>⟨items.length-(i+1),by lia,rfl,h⟩,λv H3 y=>?_⟩;obtain⟨d,hd,is3,ev3,rs3⟩:=ok.yld i st2 H2 v H3 tk2 hS2 hchk hlt y;have ed:d=items[i]:=by rw[AL hlt]at hd;exact(Ar hd).symm
   subst ed;refine⟨_,env2,_,is3,hE2.mono (ev3.tk hS2),w2,λenv4 σ4 hE4 q4=>?_⟩;have ev23:=ev2.trans ev3;have hq4:=hq.after ev23;have tk3:TK X.K H1 H3:=tk2.trans (ev3.tk hS2);exact⟨env4,st2,_,hE4,rs3,q4,λenv' σ' H' st' ev hE' hS' q=>⟨hlt,env',st',hE',hS',ev23.trans ev,tk3.trans (ev.tk rs3),q⟩,hq4.nx,λenv' σ' H' st' ev hE' hS' q=>⟨hlt,env',st',hE',hS',ev23.trans ev,tk3.trans (ev.tk rs3),q⟩,hq4.rt⟩
  ·left
   have e:i=items.length:=by lia
   subst e;rw[IQ]at w2;exact⟨ok.stop st2 H2 tk2 hS2 w2.1,hq.nx env2 σ2 H2 st2 ev2 hE2 hS2 w2.2⟩
def b73{env:i9}{σ:L2.St}{fr:List Nat}{k:Nat}(r:RelE K H env σ):RelE K H (N7 fr k env) (F8 fr k σ):=by
 refine⟨by simp[N7,F8],λi d h=>?_⟩;unfold N7 at h;unfold F8
 by_cases hi:i<fr.length
 ·rw[Ad (by simpa using hi),Am]at h ⊢;rw[AL hi]at h ⊢;simp only[Fq,Bo]at h ⊢;cases q:env[fr[i]]? with
  |none=>rw[q]at h;cases h
  |some o=>
   rw[q]at h;have h':o=AA d:=h;subst h';obtain⟨v,hv,is⟩:=r.at' _ d q;exact⟨v,by rw[hv];rfl,is⟩
 ·rw[Aj (by simpa using hi),Cz]at h
  split at h<;>cases h
def aw7{ti:i9->Sto->ItK->Prop}{g:Tg}{tc:DB}{fr:List Nat}{k:Nat}{σ:L2.St}{Q:VK}
  (h:up K (λenv st Q=>ti env st λitems chk st1=>items.length<=1000000∧u6 chk g tc ta (λacc st'=>∀p,st' p=AE->Q (.ref p) (b0 st' p (.lst acc))) items [] (N7 fr k env) st1) σ H Q) :
  an1 fr k (upI K ti) (upG K g) (upB K tc) (up K ta) Q σ H:=by
 obtain⟨env,st,Qd,hE,hS,ht,hq⟩:=h;refine⟨env,st,_,hE,hS,ht,λitems chk st1 H1 J ev1 rs1 ok q1 p hp=>?_⟩;obtain⟨hlen,q1⟩:=q1;have hEc:RelE K H1 env σ:=hE.mono (ev1.tk hS);refine⟨λi m σ' H'=>m=items.length-i∧i<=items.length∧∃env' st' acc ys,RelE K H' env' σ'∧RelS K st' H'∧st' p=AE∧H' p=AA (.lst ys)∧IsDs K H' acc ys∧acc.length<=i∧TK K H1 H'∧(∀a o,H a=AA o->st a=AE->a≠p∧(∃o',H' a=AA o'∧TbE o o')∧st' a=AE) ∧
  u6 chk g tc ta (λacc st'=>∀p,st' p=AE->Qd (.ref p) (b0 st' p (.lst acc))) (items.drop i) acc env' st',⟨items.length,by simp,BU _,N7 fr k env,st1,[],[],(b73 hEc).mono (TK.new hp),rs1.new hp,rs1.free hp,o9,.nil,BU _,TK.new hp,λa o h1 h2=>?_,q1⟩,?_⟩
 ·obtain⟨⟨o',x,t⟩,y⟩:=ev1 a o h1 h2;have ne:a≠p:=t6 x hp;exact⟨ne,⟨o',by rw[i7 ne];exact x,t⟩,y⟩
 rintro i m σ2 H2 ⟨rfl,hi,env2,st2,acc,ys,hE2,hS2,sp2,hp2,ra,hal,tk2,old,w2⟩
 by_cases hlt:i<items.length
 ·right
  rw[Dp hlt]at w2;obtain⟨hchk,w2⟩:=w2;refine⟨ok.go i st2 H2 tk2 hS2 hchk hlt,λσ' H'=>i+1<=items.length∧∃env' st' acc ys,RelE K H' env' σ'∧RelS K st' H'∧st' p=AE∧H' p=AA (.lst ys)∧IsDs K H' acc ys∧acc.length<=i+1∧TK K H1 H'∧(∀a o,H a=AA o->st a=AE->a≠p∧(∃o',H' a=AA o'∧TbE o o')∧st' a=AE) ∧
   u6 chk g tc ta (λacc st'=>∀p,st' p=AE->Qd (.ref p) (b0 st' p (.lst acc))) (items.drop (i+1)) acc env' st',λσ' H' h=>⟨items.length-(i+1),by lia,rfl,h⟩,λv H3 y=>?_⟩
  obtain⟨d,hd,is3,ev3,rs3⟩:=ok.yld i st2 H2 v H3 tk2 hS2 hchk hlt y;have ed:d=items[i]:=by rw[AL hlt]at hd;exact(Ar hd).symm
  subst ed;refine⟨_,env2,_,is3,hE2.mono (ev3.tk hS2),w2,λenv4 σ4 hE4 q4=>?_⟩;have old3:∀{H':Hp}{st':Sto},Ev st2 H2 st' H'->∀a o,H a=AA o->st a=AE->a≠p∧(∃o',H' a=AA o'∧TbE o o')∧st' a=AE:=λev a o h1 h2=>by
   obtain⟨x,⟨o1,y,t1⟩,z⟩:=old a o h1 h2;obtain⟨⟨o2,y',t2⟩,z'⟩:=ev a o1 y z;exact⟨x,⟨o2,y',t1.trans t2⟩,z'⟩
  refine⟨env4,st2,_,hE4,rs3,q4,λbb H5 st5 ev5 rs5 q5=>?_⟩;have ev25:Ev st2 H2 st5 H5:=ev3.trans ev5;have tk25:TK K H2 H5:=ev25.tk hS2;obtain⟨hp5,sp5⟩:=ev25.get hp2 sp2 (λ_=>nofun);cases bb with
  |false=>
   simp only[BO,if_false]at q5 ⊢;exact⟨hlt,env4,st5,acc,ys,hE4.mono (ev5.tk rs3),rs5,sp5,hp5,ra.mono tk25,by lia,tk2.trans tk25,old3 ev25,q5⟩
  |true=>
   simp only[if_true]at q5 ⊢;refine⟨env4,st5,_,hE4.mono (ev5.tk rs3),rs5,q5,λw e H6 st6 ev6 is6 rs6 q6=>?_⟩;have ev26:Ev st2 H2 st6 H6:=ev25.trans ev6;have tk26:TK K H2 H6:=ev26.tk hS2;obtain⟨hp6,sp6⟩:=ev26.get hp2 sp2 (λ_=>nofun);have ra6:=ra.mono tk26;have hsz:ys.length<sizeLine:=by
    rw[<-ra6.len];have:(1000001:Nat)<=sizeLine:=by decide
    lia
   refine⟨ys,hp6,hsz,hlt,env4,st6,acc++[e],ys++[w],(hE4.mono ((ev5.trans ev6).tk rs3)).mono (TK.put hp6),rs6.stay (TK.put hp6) (λa o h1=>i7 λz=>by rw[z,sp6]at h1;cases h1) (Z0 (by rw[hp6];exact λ_ z=>by cases z)),sp6,o9,(ra6.append (.cons is6 .nil)).mono (TK.put hp6),by simp;lia,(tk2.trans tk26).trans (TK.put hp6),λa o h1 h2=>?_,q6⟩;obtain⟨x,⟨o',y,t⟩,z⟩:=old3 ev26 a o h1 h2;exact⟨x,⟨o',by rw[i7 x];exact y,t⟩,z⟩
 ·left
  have e:i=items.length:=by lia
  subst e;rw[IQ]at w2;refine⟨ok.stop st2 H2 tk2 hS2 w2.1,hq _ (.ref p) H2 (b0 st2 p (.lst acc)) (λa o h1 h2=>?_) (.ref p) ⟨λa o h1=>?_,hS2.tb⟩ (w2.2 p sp2)⟩
  ·obtain⟨x,y,z⟩:=old a o h1 h2;exact⟨y,by rw[B9 x];exact z⟩
  ·by_cases ha:a=p
   ·subst ha;rw[c9]at h1;cases h1;exact⟨ys,hp2,ra⟩
   ·rw[B9 ha]at h1;exact hS2.ob a o h1
end
end Ek
namespace Ek
open PySem PySem.Spec PyProof.Rows L2
variable [Tbs]
noncomputable def c26:Unit->AF->Bool
 |_,.none=>AC
 |_,_=>AG
noncomputable def am3(prog:Ai)(w:Ax):KeyKind prog w Unit where
 is:=c26
 hash:=λ_=>0xFCA86420
 inj:=λ_ _ _ _ _=>rfl
 byValue:=λ_ v h=>by cases v<;>first|rfl|cases h
 pyHash:=λ{A E s k v Q}hv h=>by
  cases v<;>first|cases hv|skip
  exact W.pyHash_slot (T:="NoneType") rfl F.slot_NoneType_hash F.entry_NoneType_hash (F.args_NoneType_hash_1 _) (Je _) (.inl rfl) (AD (AK (AD (Gi (AK ⟨_,_,rfl,h⟩)))))
 eqBool:=λ{A E s a b u v Q}hu hv h=>by
  cases u<;>first|cases hu|skip
  cases v<;>first|cases hv|skip
  unfold PySem.eqBool
  try with_reducible refine Bs ?_
  rw[if_pos (by rfl)];exact AD (DU (AK h))
 «strs»:=λ_ _ _ _ h=>by cases h
section
variable {X:Cx} {a b:AS} {ta tb:DT} {pos:Pos}
def bb4{P:Ai}{w:Ax}{h:BC}{a:AI}(d:h.DictOfH (NK.dataKind P w) a []):h.MapOf (am3 P w) a (λ_=>AE):=by
 obtain⟨o,es,ep,h1,h2,h3,h4,_,_⟩:=d;have:es=#[]:=by
  have:es.toList=[]:=by simpa using h4
  simpa using this
 subst this;exact⟨o,#[],ep,h1,h2,h3,λe he=>by simp at he,λk=>rfl⟩
def bb7(ne:Bool):OpR X (Bl (if ne then .NotIn else .In)) (λx y H Q=>∃a,x=.non∧y=.ref a∧H a=AA (.dT [])∧Q (.bl ne) H):=by
 intro pins s σ H x y v u Q I rx ry h;obtain⟨a,rfl,rfl,e,q⟩:=h;cases(show u=An a from ry);cases(show v=Bf from rx);obtain⟨z,hd,xs,rel,dd⟩:=M6 I.hok (.inl e);have:xs=[]:=by cases rel;rfl
 subst this;cases ne with
 |true=>exact KY (knd:=am3 X.prog X.w) (k:=()) (key:=.none) rfl hd (bb4 dd) ⟨.bl AC,H,I.tok _,rfl,q⟩
 |false=>exact wpAny_in_of (knd:=am3 X.prog X.w) (k:=()) (key:=.none) rfl hd (bb4 dd) ⟨.bl AG,H,I.tok _,rfl,q⟩
end
end Ek
namespace HT
open PySem PySem.Spec PyProof.Rows
section
variable {prog:Ai} {w:Ax} {A:BL} {E:AF->AJ->Prop} {s:AJ}
def getItem_tuple_whole{t sl:AI}{items:Array AF}{vl vu:AF}{lo hi:Option Int}{Q:AF->AJ->Prop}(ht:HJ s.heap t items)(hs:s.heap.IsSliceOf sl vl vu .none)(pl:FQ vl lo)(pu:FQ vu hi)
  (hw:sIx items.size 0 lo=0∧sIx items.size items.size hi=items.size)
  (h:Q (.ref t) s):AT (model prog w) A (Da (.ref t) (.ref sl)) Q E s:=by
 have hj:sIx items.size items.size hi<=items.size:=bj2 _ _ (AU _) hi;obtain⟨os,hos,hcs,hds⟩:=id hs;have hTs:s.TypeIs (.ref sl) "slice":=⟨os,hos,hcs⟩;unfold Da
 try with_reducible refine Bs ?_
 first|refine AD (AK ?_)|skip
 refine AD (GO ht.typeIs (by decide) ?_);refine AD (BK (name:=Ab "__getitem__") ht.typeIs BN
  (BI BN ht.typeIs Ir ?_ (JH _ _)))
 show AT _ _ (CJ (.ref t)>>=_) _ _ s;refine AD (tupleItemsOf_ ht ?_);refine AD (Ds hTs ?_);rw[if_pos (by decide)];refine AD (ar6 hs pl pu ?_);have hyes:(((sIx items.size 0 lo:Nat):Int)==0&&(1:Int)==1&&(sIx items.size items.size hi-sIx items.size 0 lo)==items.size)=AC:=by
  rw[hw.1,hw.2];simp
 show AT _ _ (if(((sIx items.size 0 lo:Nat):Int)==0&&(1:Int)==1&&(sIx items.size items.size hi-sIx items.size 0 lo)==items.size)=AC then _ else _) _ _ s;rw[if_pos hyes];refine AD ?_;unfold Ju;refine AD (Ds ht.typeIs ?_);refine AK ?_;rw[if_pos (by decide)];exact AD (DU (AK ⟨_,rfl,AK h⟩))
end
end HT
namespace L2
open PySem PySem.Spec PyProof.Rows
section
variable {X:Cx}
noncomputable def c17(K:AO):V->Option Int->Option Int->Hp->VK->Prop:=λx lo hi H Q=>∃a xs,x=.ref a∧SqT K H a xs ∧
 (HT.sIx xs.length 0 lo=0∧HT.sIx xs.length xs.length hi=xs.length)∧Q (.ref a) H
def cc6:SlR X (c17 X.K):=by
 intro pins s σ H x v vl vu lo hi sl Q I rx hs pl pu h;obtain⟨a,xs,rfl,hx,hw,q⟩:=h;cases rx;obtain⟨its,r,ht,hz⟩:=I.tuple hx;have hlen:its.toArray.size=xs.length:=by rw[AY];exact r.length.symm
 refine⟨"tuple",_,BN.lookup,ht.typeIs,?_⟩;exact HT.getItem_tuple_whole ht hs pl pu (by rw[hlen];exact hw) ⟨.ref a,H,I,rfl,q⟩
end
end L2
namespace Ek
open PySem PySem.Spec PyProof.Rows L2
variable [Tbs]
variable{H:Hp}
mutual
theorem bb9{K:AO}{H:Hp}(kt:Tbs.kt=AG):∀(d:D){v:V},IsD K H d v->NK.lit d.py=AC->HRd H d.py v
 |.int i,v,h,_=>h.int_inv
 |.str x,v,h,_=>h.str_inv
 |.tup ds,v,h,hl=>by
  obtain⟨a,vs,rfl,q,r⟩:=h.tup_invX;exact⟨a,vs,rfl,q.trk kt,a65 kt ds r hl⟩
 |.non,v,h,hl=>nomatch hl
 |.bl _,v,h,hl=>nomatch hl
 |.ref _,v,h,hl=>nomatch hl
 |.fn _,v,h,hl=>nomatch hl
 |.clo _ _ _ _,v,h,hl=>nomatch hl
 |.ktup _,v,h,hl=>nomatch hl
theorem a65{K:AO}{H:Hp}(kt:Tbs.kt=AG):∀(ds:List D){vs:List V},IsDs K H ds vs->NK.lits (D.pys ds)=AC->L0 H (D.pys ds) vs
 |[],vs,r,_=>r.inv_nil
 |d::ds,vs,r,hl=>by
  obtain⟨v,ws,rfl,i1,i2⟩:=r.inv_cons;have h':NK.lit d.py=AC∧NK.lits (D.pys ds)=AC:=by
   have:(NK.lit d.py&&NK.lits (D.pys ds))=AC:=hl;simpa using this
  exact⟨v,ws,rfl,bb9 kt d i1 h'.1,a65 kt ds i2 h'.2⟩
end
def al9{K:AO}(kt:Tbs.kt=AG){ks:List D}{v:V}(h:IsD K H (.tup ks) v)(hk:D.key (.tup ks)):∃b,v=.ref b∧D4 H (D.tup ks).py b:=by
 obtain⟨a,vs,rfl,_⟩:=h.tup_invX;exact⟨a,rfl,hk.1,hk.2,bb9 kt _ h hk.1⟩
section
variable {X:Cx} {a b o i v:AS} {ta tb to ti tv:DT} {pos apos pos':Pos}
theorem RelS.dtt{K:AO}{st:Sto}(r:RelS K st H){a:AI}{kvs:List (Af×D)}(h:st a=AA (.dtt kvs)):∃vs,H a=AA (.dT vs)∧IsPs K H kvs vs∧Tbs.kt=AG:=r.ob a _ h
def cq4{c:List Str}(hk:c≠[]->Tbs.kt=AG):PE X (.Dict [] [] pos) (up X.K λenv st Q=>c≠[]∧∀p,st p=AE->Q (.ref p) (b0 st p (.dtt []))):=
 PE.imp b71 λσ H Q q=>by
  obtain⟨env,st,Qd,hE,hS,ht,hq⟩:=q;exact λp hp=>hq _ (.ref p) _ (b0 st p (.dtt [])) (Ev.newS hp) (.ref p) (hS.putAny (TK.new hp) ⟨[],o9,.nil,hk ht.1⟩ (by rw[hp];exact λ_=>nofun)) (ht.2 p (hS.free hp))
def cu9(hu:X.A.units+200<Bk)(ha:PE X a (up X.K ta))(hb:PE X b (up X.K tb))(hbase:∀i p p',a≠.Call (.Name i p) [] [] p')(hs:∀e p,b≠.Starred e p)(hline:(apos.endLine==pos.line)=AC):
  PE X (.Call (.Attribute a "get" apos) [b] [] pos) (up X.K λenv st Q=>ta env st λx st1=>ap8 x st1∧tb env st1 λy st2=>aq6 x y st2 Q):=
 PE.imp (ay7 (by lia) ha hb ⟨A8 hbase,by rw[l7 hs];rfl,hline,by rw[l7 hs];rfl⟩) λσ H Q q=>by
  obtain⟨env,st,Qd,hE,hS,ht,hq⟩:=q;refine⟨env,st,_,hE,hS,ht,λx d H1 st1 ev is rs q1=>?_⟩;obtain⟨hd,q1⟩:=q1;cases d<;>first|exact hd.elim|skip
  rename_i p;obtain⟨kvs,hp⟩:=hd;obtain⟨vs,hH,r,kt⟩:=rs.dtt hp;refine⟨p,is.ref_inv,.inr ⟨vs,.inl hH⟩,env,st1,_,hE.mono (ev.tk hS),rs,q1,λy e H2 st2 ev2 is2 rs2 q2=>?_⟩;cases e<;>first|exact q2.elim|skip
  rename_i ks;obtain⟨kvs2,hp2,hk,q2⟩:=q2;obtain⟨vs2,hH2,r2,_⟩:=rs2.dtt hp2;obtain⟨b,rfl,hb⟩:=al9 kt is2 hk;refine⟨_,u2.t hH2 hb,?_⟩
  rcases r2.look (D.tup ks).py with⟨l1,l2⟩|⟨d,v,l1,l2,i⟩
  ·rw[l2];rw[l1]at q2;exact hq _ _ _ st2 (ev.trans ev2) .non rs2 q2
  ·rw[l2];rw[l1]at q2;exact hq _ _ _ st2 (ev.trans ev2) i rs2 q2
def TK.putT{K:AO}{p:AI}{u:HO}{xs:List (Af×V)}(h:H p=AA (.dT xs)):TK K H (upd H p u):=TK.upd' (by rw[h];exact λ_ z=>by cases z) (by rw[h];exact λ_ _ z=>by cases z)
def a90(hu:X.A.units+200<Bk)(ne:Bool):OpR X (Bl (if ne then .NotIn else .In)) (λx y H Q=>∃a o,y=.ref a∧u2 H a x o∧Q (.bl (ne != o.isSome)) H):=by
 intro pins s σ H x y v u Q I rx ry h;obtain⟨a,o,rfl,g,q⟩:=h;cases(show u=An a from ry);cases ne with
 |true=>exact a69 (by lia) I g rx λs' I'=>⟨.bl _,H,I',rfl,by cases h:o.isSome<;>(rw[h]at q;exact q)⟩
 |false=>exact bu0 (by lia) I g rx λs' I'=>⟨.bl _,H,I',rfl,by cases h:o.isSome<;>(rw[h]at q;exact q)⟩
def bg1{ne:Bool}{v w:V}{d e:D}{H':Hp}{st':Sto}{Qd:DK}{Q:VK}(i1:IsD X.K H' d v)(i2:IsD X.K H' e w)(rs:RelS X.K st' H')(ht:O9 ne d e st' Qd)(hq:t3 X.K st' H' Qd Q):(∃a o,w=.ref a∧u2 H' a v o∧Q (.bl (ne != o.isSome)) H')∨∃a,v=.non∧w=.ref a∧H' a=AA (.dT [])∧Q (.bl ne) H':=by
 cases d<;>cases e<;>first|exact AZ ht|skip
 ·rename_i a;obtain⟨hp,ht⟩:=ht;obtain⟨vs,hH,r,kt⟩:=rs.dtt hp;have:vs=[]:=Ay (by rw[<-r.len];rfl);subst this;exact .inr ⟨_,(by cases i1;rfl),i2.ref_inv,hH,hq.here (.bl _) rs ht⟩
 rename_i ks a;refine .inl ?_;obtain⟨kvs,hp,hk,ht⟩:=ht;obtain⟨vs,hH,r,kt⟩:=rs.dtt hp;obtain⟨b,rfl,hb⟩:=al9 kt i1 hk;refine⟨_,_,i2.ref_inv,u2.t hH hb,?_⟩
 rcases r.look (D.tup ks).py with⟨l1,l2⟩|⟨d,v,l1,l2,i⟩
 ·rw[l2];rw[l1]at ht;exact hq.here (.bl _) rs ht
 ·rw[l2];rw[l1]at ht;exact hq.here (.bl _) rs ht
def cu8{ne:Bool}{c:Dn}(ho:c=if ne then .NotIn else .In)(hu:X.A.units+200<Bk)(ha:PE X a (up X.K ta))(hb:PE X b (up X.K tb))(hm:∀es k p,b≠.Set es k p):PE X (.Compare a [c] [b] pos) (up X.K λenv st Q=>ta env st λx st1=>tb env st1 λy st2=>O9 ne x y st2 Q):=by
 subst ho;exact PE.imp (a49 ((a90 hu ne).or (bb7 ne)) ha hb (Y9 _ b hm)) λσ H Q q=>up2 (f:=O9 ne) q λv w d e H' st' Qd i1 i2 rs ht hq=>bg1 i1 i2 rs ht hq
def cv1{ne:Bool}{c:Dn}(ho:c=if ne then .NotIn else .In)(hu:X.A.units+200<Bk)(ha:PE X a (up X.K ta))(hb:PE X b (up X.K tb))(hm:∀es k p,b≠.Set es k p):
  PT X (.Compare a [c] [b] pos) (upB X.K λenv st Q=>ta env st λx st1=>tb env st1 λy st2=>O9 ne x y st2 λd st'=>∃k,d=.bl k∧Q k st'):=by
 subst ho;refine PT.imp (a57 ((a90 hu ne).or (bb7 ne)) ha hb (Y9 _ b hm)) λσ H Q q=>?_;obtain⟨env,st,Qd,hE,hS,ht,hq⟩:=q;refine up2 (f:=O9 ne) (Q:=λx H'=>∃k,x=.bl k∧Q k H') ⟨env,st,_,hE,hS,ht,λv d H' st' ev is rs q1=>?_⟩ λv w d e H' st' Qd i1 i2 rs ht hq=>bg1 i1 i2 rs ht hq;obtain⟨k,rfl,q1⟩:=q1;exact⟨k,is.bl_inv,hq k H' st' ev rs q1⟩
def cc9(hu:X.A.units+200<Bk)(hv:PE X v (up X.K tv))(ho:PE X o (up X.K to))(hi:PE X i (up X.K ti))(hs:Cb v (AA (.Subscript o i pos')) pos.line X.env=pure AG):
  PS X (.Assign [.Subscript o i pos'] v pos) (upS X.K λF env st=>tv env st λd st1=>to env st1 λx st2=>ti env st2 λy st3=>ao4 x y d st3 λst4=>F.nx env st4):=
 PS.imp (cl1 (by lia) ho hi hv hs) λF σ H⟨env,st,Fd,hE,hS,ht,hq⟩=>⟨env,st,_,hE,hS,ht,λw d H1 st1 ev1 is1 rs1 q1=>
  ⟨env,st1,_,hE.mono (ev1.tk hS),rs1,q1,λov x H2 st2 ev2 is2 rs2 q2=>⟨env,st2,_,(hE.mono (ev1.tk hS)).mono (ev2.tk rs1),rs2,q2,λiv y H3 st3 ev3 is3 rs3 q3=>by
   cases x<;>cases y<;>first|exact q3.elim|skip
   obtain⟨kvs,hp,hk,hl,q3⟩:=q3;obtain⟨vs,hH,r,kt⟩:=rs3.dtt hp;obtain⟨b,rfl,hb⟩:=al9 kt is3 hk;have is1':=(is1.mono (ev2.tk rs1)).mono (ev3.tk rs2);refine⟨_,_,(is2.mono (ev3.tk rs2)).ref_inv,X1.t hH hb (by rw[<-r.len];exact hl),?_⟩;exact hq.nx env σ _ _ (((ev1.trans ev2).trans ev3).trans (Ev.put hp)) ((((hE.mono (ev1.tk hS)).mono (ev2.tk rs1)).mono (ev3.tk rs2)).mono (TK.putT hH)) (rs3.putAny (ob:=.dtt (U1 kvs _ d)) (TK.putT hH) ⟨_,o9,(r.put is1' _).mono (TK.putT hH),kt⟩ (by rw[hH];exact λ_ z=>by cases z)) q3⟩⟩⟩
def b29{ds:List D}{lo hi:Option Int}(h:HT.sIx ds.length 0 lo=0∧HT.sIx ds.length ds.length hi=ds.length):z8 ds lo hi=ds:=by
 unfold z8;rw[h.1,h.2];simp
def cs8{lo hi:Option AS}{tl th:DO}{p2:Pos}(ha:PE X a (up X.K ta))(hl:PO X lo (upO X.K tl))(hh:PO X hi (upO X.K th)):
  PE X (.Subscript a (.Slice lo hi AE p2) pos) (up X.K λenv st Q=>ta env st λx st1=>tl env st1 λl st2=>th env st2 λh st3=>ad3 x l h st3 Q):=
 PE.imp (ay5 (bc1.or cc6) ha hl hh) λσ H Q q=>by
  obtain⟨env,st,Qd,hE,hS,ht,hq⟩:=q;refine⟨env,st,_,hE,hS,ht,λv d H1 st1 ev1 is1 rs1 q1=>⟨env,st1,_,hE.mono (ev1.tk hS),rs1,q1,λl H2 st2 ev2 rs2 q2=>⟨env,st2,_,(hE.mono (ev1.tk hS)).mono (ev2.tk rs1),rs2,q2,λh H3 st3 ev3 rs3 q3=>?_⟩⟩⟩;have is3:=(is1.mono (ev2.tk rs1)).mono (ev3.tk rs2);have hq3:=((hq.after ev1).after ev2).after ev3;cases d<;>first|exact AZ q3|skip
  rename_i ds;obtain⟨p,vs,rfl,hs,r⟩:=is3.tup_invX
  by_cases hw:HT.sIx ds.length 0 l=0∧HT.sIx ds.length ds.length h=ds.length
  ·have q4:Qd (.tup (z8 ds l h)) st3:=q3;rw[b29 hw]at q4;exact .inr ⟨p,vs,rfl,hs.sqt,by rw[<-r.len];exact hw,hq3.here (IsD.mk hs r) rs3 q4⟩
  ·exact .inl ⟨p,vs,rfl,hs.sqt,by rw[<-r.len];exact hw,hq3.newT rs3 (an0 r l h) q3⟩
end
end Ek
namespace Ek
open PySem PySem.Spec PyProof.Rows L2
variable [Tbs]
section
variable {X:Cx} {a o i v:AS} {ta to ti tv:DT} {p pos pos':Pos}
def cn4:PE X (.Dict [] [] pos) (up X.K λenv st Q=>∀p,st p=AE->Q (.ref p) (b0 st p (.dct []))):=
 PE.imp cb5 λσ H Q q=>by
  obtain⟨env,st,Qd,hE,hS,ht,hq⟩:=q;exact λp hp=>hq _ (.ref p) _ (b0 st p (.dct [])) (Ev.newS hp) (.ref p) (hS.putNewD hp ⟨rfl,.nil⟩) (ht p (hS.free hp))
end
end Ek
namespace PySem
def bv3:Fv (.type "enumerate") "__getattr__"=pure AE:=by rw[Cy,By];kernel_rfl
def bz0:Fv (.type "enumerate") "keys"=pure AE:=by rw[Cy,By];kernel_rfl
def bx2:Ie table "enumerate.__getattribute__"=AA Cf.«object.__getattribute__»:=
 Kk (id':="object.__getattribute__") (by kernel_rfl) (by decide+kernel) (by decide+kernel) (by kernel_rfl)
noncomputable def EnO(h:BC)(e it:AI)(i:Int)(f:AF)(fb:Bool)(old:AF):Prop:=h.get? e=AA {cls:=.type "enumerate",dict:=AE,data:=.fields #[f,.bool fb,.ref it,Cm i,.none,old],slots:=#[]}
def bv9(e:AI)(fs:Array AF)(u:Tok):
  IY (Cf.«object.__getattribute__» ⟨[.ref e,.str "keys" u],[]⟩) (λA R s=>s.heap.get? e=AA {cls:=.type "enumerate",dict:=AE,data:=.fields fs,slots:=#[]}∧raisesAttr (.ref e) "keys" A R s):=
 Meets.of_wp λprog w A R s hs=>by
  obtain⟨hp,g,d,tk,os⟩:=s;obtain⟨hx,hs⟩:=hs;have hT:(⟨hp,g,d,tk,os⟩:AJ).TypeIs (.ref e) "enumerate":=⟨_,hx,rfl⟩;have hmiss:=bz0;unfold Cf.«object.__getattribute__»
  repeat (any_goals (first|assumption|wp_step))
  exact wpAny_raiseAttrError hs.1 hs.2 (attrMsg_fits (by decide+kernel) (by decide+kernel))
section
variable {prog:Ai} {w:Ax} {A:BL} {E:AF->AJ->Prop} {s:AJ}
set_option maxRecDepth 8000 in
def cl7{e:AI}{fs:Array AF}{Q:Option AF->AJ->Prop}(hx:s.heap.get? e=AA {cls:=.type "enumerate",dict:=AE,data:=.fields fs,slots:=#[]})(hA:A.handled=AE)
  (h:∀h' tk,(∀b o,s.heap.get? b=AA o->h'.get? b=AA o)->Q AE {s with heap:=h',toks:=tk}) :
  AT (model prog w) A (getAttr? (.ref e) "keys") Q E s:=by
 obtain⟨hp,g,d,tk,os⟩:=s;have hT:∀tk',(⟨hp,g,d,tk',os⟩:AJ).TypeIs (.ref e) "enumerate":=λ_=>⟨_,hx,rfl⟩;have f1:=sub_AttributeError;have f3:=DX.lookup;have f4:=DX.bind (.ref e);have f5:=bv3;unfold getAttr? getAttrBy? getAttrBy
 repeat (any_goals (first|assumption|exact hT _|((with_reducible show AT _ _ (call (Im "enumerate.__getattribute__") _ _) _ _ _);refine CU DX (hT _) bx2 (F.args_enumerate_getattribute_2 _ _) (bv9 e fs _) ⟨hx,hA,λh' tk' x hx'=>?_⟩)|wp_step))
 obtain⟨t',u',he⟩:=hx'.there;show AT _ _ (JM _ _ _ _ _ _ _) _ _ _;unfold JM
 repeat (any_goals (first|assumption|wp_step))
 exact h _ _ hx'.keeps
end
end PySem
namespace PySem
variable{e it:AI}{f old:AF}
section
variable {prog:Ai} {w:Ax} {A:BL} {E:AF->AJ->Prop} {s:AJ}
noncomputable def ac6(f:AF):Prop:=f=.none∨∃c:AI,f=Cm c
def cn8{i:Int}{fb:Bool}(Z:EnO s.heap e it i f fb old)(hf:ac6 f){R:Bool->AJ->Prop}
  (r:∀b h' fb',EnO h' e it i f fb' old->Az e s.heap h'->R b {s with heap:=h'}):AT (model prog w) A (CM (.ref e)) R E s:=by
 unfold CM
 rcases hf with rfl|⟨c,rfl⟩
 ·exact AD (BG Z rfl (x:=.none) rfl (AK (r AC s.heap fb Z ⟨rfl,λ_ _=>rfl⟩)))
 ·refine AD (BG Z rfl (x:=Cm c) rfl ?_);show AT _ _ (Ig (HC (c:Int))>>=_) _ _ _;refine AD (b04 ?_);show AT _ _ (if((s.heap.get? (HC (c:Int))).isNone)=AC then _ else _) _ _ _
  split
  ·exact AK (r AC s.heap fb Z ⟨rfl,λ_ _=>rfl⟩)
  ·show AT _ _ (field (.ref e) 1>>=_) _ _ _;refine AD (BG Z rfl (x:=.bool fb) rfl ?_)
   split
   ·exact AD (CV Z (by simp) λh1 Z1 e1=>AK (r AG h1 AC Z1 e1))
   ·exact AK (r AG s.heap fb Z ⟨rfl,λ_ _=>rfl⟩)
def ci1{l:AI}{i:Nat}{xs:Array AF}{x:AF}{fb:Bool}{Q:Option AF->AJ->Prop}(Z:EnO s.heap e it i f fb old)(hf:ac6 f)(I:z6 AC s.heap it l i)(L:A5 AC s.heap l xs)(hx:xs[i]?=AA x)(hne:e≠it)
  (q:∀h' f' fb' old' tk,EnO h' e it ((i+1:Nat):Int) f' fb' old'->ac6 f'->z6 AC h' it l (i+1)->h'.get? s.heap.objs.size=AA {cls:=.type "tuple",data:=.seq #[.int i tk,x]}->h'.objs.size=s.heap.objs.size+1 ->
   (∀b o,b≠e->b≠it->s.heap.get? b=AA o->h'.get? b=AA o)->Q (AA (.ref s.heap.objs.size)) {s with heap:=h',toks:=tk+1}) :
  AT (model prog w) A (EB (.ref e)) Q E s:=by
 have hT:s.TypeIs (.ref e) "enumerate":=⟨_,Z,rfl⟩;obtain⟨hp,g,d,tk,os⟩:=s;unfold EB;refine AD (EU (BK (name:=Ab "__next__") hT DP (BI DP hT Hi ?_ (HW _))));show AT _ _ (field (.ref e) 2>>=_) _ _ _;refine AD (BG Z rfl (x:=.ref it) rfl ?_);refine AD (cc7 I L hx λg1 J1 e1=>?_);replace e1:Az it hp g1:=e1;have Z1:EnO g1 e it i f fb old:=(e1.2 e hne).trans Z;show AT _ _ (field (.ref e) 3>>=_) _ _ ⟨g1,g,d,tk,os⟩;refine AD (BG Z1 rfl (x:=Cm i) rfl ?_);show AT _ _ (field (.ref e) 4>>=_) _ _ ⟨g1,g,d,tk,os⟩;refine AD (BG Z1 rfl (x:=.none) rfl ?_);show AT _ _ (mkInt i>>=_) _ _ ⟨g1,g,d,tk,os⟩;refine AD (Gi ?_);show AT _ _ (Km (.ref e) 3 (Cm ((i:Int)+1))>>=_) _ _ ⟨g1,g,d,tk+1,os⟩;refine AD (CV Z1 (by simp) λg2 Z2 e2=>?_);replace e2:Az e g1 g2:=e2;replace Z2:EnO g2 e it ((i+1:Nat):Int) f fb old:=Z2;show AT _ _ (Km (.ref e) 4 .none>>=_) _ _ ⟨g2,g,d,tk+1,os⟩;refine AD (CV Z2 (by simp) λg3 Z3 e3=>?_);replace e3:Az e g2 g3:=e3;replace Z3:EnO g3 e it ((i+1:Nat):Int) f fb old:=Z3;show AT _ _ (Kh [.int i tk,x]>>=_) _ _ ⟨g3,g,d,tk+1,os⟩;refine AD (wpAny_newTuple ?_);have sz:g3.objs.size=hp.objs.size:=by rw[e3.1,e2.1,e1.1]
 have up3:∀b o,b≠e->b≠it->hp.get? b=AA o->g3.get? b=AA o:=λb o n1 n2 h=>e3.extBut _ _ n1 (e2.extBut _ _ n1 (e1.extBut _ _ n2 h));have J3:z6 AC g3 it l (i+1):=J1.stay λo h=>e3.extBut _ _ hne.symm (e2.extBut _ _ hne.symm h);have T4:=Ap g3 (o:={cls:=.type "tuple",data:=.seq #[.int i tk,x]}) rfl;have Z4:EnO (g3.push {cls:=.type "tuple",data:=.seq #[.int i tk,x]}) e it ((i+1:Nat):Int) f fb old:=AQ _ Z3;have sz4:(g3.push {cls:=.type "tuple",data:=.seq #[.int i tk,x]}).objs.size=hp.objs.size+1:=by rw[FV,sz]
 have up4:∀b o,b≠e->b≠it->hp.get? b=AA o->(g3.push {cls:=.type "tuple",data:=.seq #[.int i tk,x]}).get? b=AA o:=λb o n1 n2 h=>AQ _ (up3 b o n1 n2 h);have J4:z6 AC (g3.push {cls:=.type "tuple",data:=.seq #[.int i tk,x]}) it l (i+1):=J3.stay λo h=>AQ _ h;rw[sz]at T4;have elt:hp.objs.size≠e:=GJ (Au Z);show AT _ _ (CM (.ref e)>>=_) _ _ ⟨_,g,d,tk+1,os⟩;rw[sz];generalize g3.push {cls:=.type "tuple",data:=.seq #[.int i tk,x]}=g4 at T4 Z4 sz4 up4 J4;refine AD (cn8 Z4 hf λb g5 fb' Z5 e5=>?_);replace e5:Az e g4 g5:=e5;cases b with
 |true=>
  simp only[if_true];refine AD (DU (AD (BG Z5 rfl (x:=old) rfl (AD (CV Z5 (by simp) λg6 Z6 e6=>?_)))));replace e6:Az e g5 g6:=e6;replace Z6:EnO g6 e it ((i+1:Nat):Int) f fb' x:=Z6;show AT _ _ (Dj (.ref e) (.ref hp.objs.size)>>=_) _ _ ⟨g6,g,d,tk+1,os⟩;refine AD ?_;unfold Dj;refine AD (CV Z6 (by simp) λg7 Z7 e7=>?_);replace e7:Az e g6 g7:=e7;replace Z7:EnO g7 e it ((i+1:Nat):Int) (Cm hp.objs.size) fb' x:=Z7;refine CV Z7 (by simp) λg8 Z8 e8=>?_;replace e8:Az e g7 g8:=e8;replace Z8:EnO g8 e it ((i+1:Nat):Int) (Cm hp.objs.size) AG x:=Z8;have up8:∀b o,b≠e->g4.get? b=AA o->g8.get? b=AA o:=λb o n h=>e8.extBut _ _ n (e7.extBut _ _ n (e6.extBut _ _ n (e5.extBut _ _ n h)));exact AD (wpAny_letGo (AK ⟨_,rfl,AK (q g8 _ _ _ tk Z8 (.inr ⟨_,rfl⟩) (J4.stay λo h=>up8 _ o hne.symm h) (up8 _ _ elt T4) (by rw[e8.1,e7.1,e6.1,e5.1,sz4]) λb o n1 n2 h=>up8 b o n1 (up4 b o n1 n2 h))⟩))
 |false=>
  simp only[BO,if_false];have up5:∀b o,b≠e->g4.get? b=AA o->g5.get? b=AA o:=λb o n h=>e5.extBut _ _ n h;exact AK ⟨_,rfl,AK (q g5 _ _ _ tk Z5 hf (J4.stay λo h=>up5 _ o hne.symm h) (up5 _ _ elt T4) (by rw[e5.1,sz4]) λb o n1 n2 h=>up5 b o n1 (up4 b o n1 n2 h))⟩
def cl5{l:AI}{i:Nat}{xs:Array AF}{fb:Bool}{Q:Option AF->AJ->Prop}(hh:A.handled=AE)(Z:EnO s.heap e it i f fb old)(I:z6 AC s.heap it l i)(L:A5 AC s.heap l xs)(hx:xs[i]?=AE)
  (q:∀h',Ei it s.heap h'->Q AE {s with heap:=h'}):AT (model prog w) A (EB (.ref e)) Q E s:=by
 have hT:s.TypeIs (.ref e) "enumerate":=⟨_,Z,rfl⟩;unfold EB;refine AD (EU (BK (name:=Ab "__next__") hT DP (BI DP hT Hi ?_ (HW _))));show AT _ _ (field (.ref e) 2>>=_) _ _ _;refine AD (BG Z rfl (x:=.ref it) rfl ?_);refine AD (cw6 hh I L hx λh' v hu⟨o,ho,hc⟩=>?_);exact AD (Eb (T:="StopIteration") (b:=AC) ⟨o,ho,hc⟩ Ko (AK (q _ hu)))
end
end PySem
namespace PySem
variable{xs:Array AF}
def az5:Ie table "dict.update.loop"=AA Cf.«dict.update.loop»:=Jt (by kernel_rfl)
def Y6:plainId "dict.update.loop"=AC:=by decide+kernel
noncomputable def B6(xs:Array AF)(i:Nat):List (L2.Key×AF):=(Cs i).map λ(j:Nat)=>(.inl (j:Int),(xs[j]?).getD .none)
def b37{i:Nat}{x:AF}(h:xs[i]?=AA x):stored (B6 xs i) (.inl (i:Int)) x=B6 xs (i+1):=by
 have hn:¬((B6 xs i).any λkv=>AB (kv.1=(.inl (i:Int):L2.Key)))=AC:=by
  intro z;obtain⟨kv,hkv,e⟩:=any_eq_true.mp z;obtain⟨j,hj,rfl⟩:=Ce.mp hkv;have e:=of_decide_eq_true e;injection e with e
  have:=Iq.mp hj;lia
 unfold stored;rw[if_neg hn];unfold B6;rw[List.range_succ,Ag];simp[h]
def b67{i:Nat}:(B6 xs i).length=i:=by simp[B6]
section
variable {prog:Ai} {w:Ax} {A:BL} {E:AF->AJ->Prop} {s:AJ}
def cg6{e it l d:AI}{R:Hx->AJ->Prop}(hh:A.handled=AE)(hne:e≠it)(n1:d≠e)(n2:d≠it)(n3:d≠l)(n4:l≠e)(n5:l≠it)(hz:xs.size<=1000000):
  ∀(m i:Nat)(s:AJ)(f old:AF)(fb:Bool),xs.size-i=m->i<=xs.size->EnO s.heap e it i f fb old->ac6 f->z6 AC s.heap it l i->A5 AC s.heap l xs->s.heap.DictOf (L2.v2 prog w) d (B6 xs i) ->
  (∀h' tk,(∀b o,b≠d->b≠e->b≠it->s.heap.get? b=AA o->h'.get? b=AA o)->h'.DictOf (L2.v2 prog w) d (B6 xs xs.size)->R (.ok (.ret .none)) {s with heap:=h',toks:=tk}) ->
  Dq (model prog w) A (.builtin "dict.update.loop" ⟨[.ref d,.ref e,Cm i,.none],[]⟩) R s:=by
 intro m
 induction m with
 |zero=>
  intro i s f old fb hm hi Z hf I L D hR;have hin:i=xs.size:=by lia
  refine KJ az5 ?_;rw[HD Y6 _];show AT _ A.in1 (EB (.ref e)>>=_) _ _ s;refine AD (cl5 hh Z I L (by rw[hin];exact Array.getElem?_eq_none (AU _)) λh' up=>?_);show AT _ A.in1 (KL d []>>=_) _ _ _;refine AD (AK (AK (hR h' s.toks (λb o _ _ c h=>up b o c h) ?_)));obtain⟨o,es,ep,ho,r⟩:=D;rw[<-hin];exact⟨o,es,ep,up d o n2 ho,r⟩
 |succ m ih=>
  intro i s f old fb hm hi Z hf I L D hR;have hlt:i<xs.size:=by lia
  have hx:=Array.getElem?_eq_getElem hlt;refine KJ az5 ?_;rw[HD Y6 _];show AT _ A.in1 (EB (.ref e)>>=_) _ _ s;refine AD (ci1 Z hf I L hx hne λg1 f' fb' old' tk Z1 hf1 J1 T1 sz1 up1=>?_);have hTn:∀{b o},s.heap.get? b=AA o->b≠s.heap.objs.size:=λh=>BJ (Au h);have D1:g1.DictOf (L2.v2 prog w) d (B6 xs i):=by
   obtain⟨o,es,ep,ho,r⟩:=D;exact⟨o,es,ep,up1 d o n1 n2 ho,r⟩
  have L1:A5 AC g1 l xs:=L.stay λo h=>up1 _ o n4 n5 h;refine AD (Bs ?_);refine AD (wpAny_tryCatch ?_);unfold KM;refine AD (Ds (T:="tuple") ⟨_,T1,rfl⟩ ?_);rw[if_pos (by decide)];refine AD (Cj T1 rfl (AK ?_));show AT _ A.in1 (holding [DZ i tk,xs[i]] (dictSet d (.int i tk) xs[i])) _ _ _;refine Bs (wpAny_dictSet_pairs (knd:=L2.v2 prog w) (k:=.inl (i:Int)) (L2.O3 (k:=.inl (i:Int)) ⟨tk,rfl⟩) D1 (λg2 D2 e2=>?_) (by rw[b67,Ge];lia));replace e2:Az d g1 g2:=e2;rw[b37 hx]at D2;refine AK ⟨plainId_quiet Y6 _,?_⟩;have Z2:EnO g2 e it ((i+1:Nat):Int) f' fb' old':=e2.extBut _ _ n1.symm Z1;refine ih (i+1) {s with heap:=g2,toks:=_} f' old' fb' (by lia) hlt Z2 hf1 (J1.stay λo h=>e2.extBut _ _ n2.symm h) (L1.stay λo h=>e2.extBut _ _ n3.symm h) D2 λh3 tk3 up3 D3=>?_;exact hR h3 tk3 (λb o c1 c2 c3 h=>up3 b o c1 c2 c3 (e2.extBut _ _ c1 (up1 b o c2 c3 h))) D3
def bw0{e it l:AI}{Q:AF->AJ->Prop}(hh:A.handled=AE)(hne:e≠it)(n4:l≠e)(n5:l≠it)(hz:xs.size<=1000000)(Z:EnO s.heap e it 0 .none AG .none)(I:z6 AC s.heap it l 0)(L:A5 AC s.heap l xs)
  (hQ:∀h' tk,(∀b o,b≠e->b≠it->s.heap.get? b=AA o->h'.get? b=AA o)->h'.DictOf (L2.v2 prog w) s.heap.objs.size (B6 xs xs.size)->Q (.ref s.heap.objs.size) {s with heap:=h',toks:=tk}) :
  AT (model prog w) A (call (.type "dict") [.ref e]) Q E s:=by
 refine callType_codes (Q₁:=λobj s₁=>obj=.ref s.heap.objs.size∧s₁={s with heap:=s.heap.push {cls:=.type "dict",data:=.dict #[]}}) F.kt_called_dict (F.kt_typeCall_dict_1 _) F.entry_dict_init (kt_code_dict_new _ ⟨rfl,rfl⟩) ?_;rintro obj s₁ ⟨rfl,rfl⟩;have hnew:(s.heap.push {cls:=.type "dict",data:=.dict #[]}).DictOf (L2.v2 prog w) s.heap.objs.size []:=HA s.heap;have Z1:EnO (s.heap.push {cls:=.type "dict",data:=.dict #[]}) e it 0 .none AG .none:=AQ _ Z;have I1:z6 AC (s.heap.push {cls:=.type "dict",data:=.dict #[]}) it l 0:=I.stay λo h=>AQ _ h;have L1:A5 AC (s.heap.push {cls:=.type "dict",data:=.dict #[]}) l xs:=L.stay λo h=>AQ _ h;have old:∀{b o},s.heap.get? b=AA o->s.heap.objs.size≠b:=λh=>GJ (Au h);obtain⟨oi,ei,_⟩:=I.obj;refine⟨hnew.typeIs,F.args_dict_init_2 _ _,?_⟩;unfold Cf.«dict.__init__»;refine AD ?_;unfold KN;refine AD (wpAny_notOrdered_dict hnew.typeIs ?_);show AT _ _ (pure (s.heap.objs.size,[An e])) _ _ _;refine AK ?_;show AT _ _ (Fe "dict.__init__" s.heap.objs.size (.ref e) [] .none) _ _ _;unfold Fe;refine AD (Ds (T:="enumerate") ⟨_,Z1,rfl⟩ ?_);rw[if_pos (by decide)];refine AD (cl7 Z1 (by exact hh) λg1 tk up1=>?_);simp only[Option.isNone_none,if_true];refine AD (DU (AD (EO (i:=0) (old:=.none) (up1 _ _ Z1) (AK ?_))));refine⟨plainId_quiet Y6 _,?_⟩;have D1:g1.DictOf (L2.v2 prog w) s.heap.objs.size (B6 xs 0):=by
  obtain⟨o,es,ep,ho,r⟩:=hnew;exact⟨o,es,ep,up1 _ o ho,r⟩
 refine cg6 (by exact hh) hne (old Z) (old ei) (GJ L.lt) n4 n5 hz xs.size 0 {s with heap:=g1,toks:=tk} .none .none AG (by lia) (BU _) (up1 _ _ Z1) (.inl rfl) (I1.stay λo h=>up1 _ o h) (L1.stay λo h=>up1 _ o h) D1 λh' tk' up2 D2=>?_;exact⟨rfl,hQ h' tk' (λb o c1 c2 h=>up2 b o (old h).symm c1 c2 (up1 b o (AQ _ h))) D2⟩
end
end PySem
namespace Ek
open PySem PySem.Spec PyProof.Rows L2
variable [Tbs]
theorem ay8{α:Type}:∀(l:List α)(i:Nat),(o7 i l).length=l.length
 |[],_=>rfl
 |x::r,i=>by simp[o7,ay8 r (i+1)]
theorem a74:∀(l:List AF)(n i:Nat),i+l.length=n->∀(xs:Array AF),(∀j,xs[i+j]?=l[j]?)->(Jq i l.length).map (λ(j:Nat)=>((.inl (j:Int):Key),(xs[j]?).getD .none))=o7 i l
 |[],n,i,_,xs,_=>rfl
 |x::r,n,i,hn,xs,h=>by
  have h0:=h 0;simp only[Jv,List.getElem?_cons_zero]at h0;rw[AW,IP,Aa,h0];show _::_=(.inl (i:Int),x)::o7 (i+1) r;rw[a74 r n (i+1) (by simp at hn;lia) xs λj=>by
   have:=h (j+1);rw[Go]at this;rw[<-this];congr 1;lia]
  rfl
def cf2(l:List AF):B6 l.toArray l.toArray.size=o7 0 l:=by
 unfold B6;rw[List.range_eq_range',AY];exact a74 l l.length 0 (by simp) l.toArray λj=>by simp
theorem a60:∀{vs:List V}{its:List AF}(i:Nat),f7 vs its->KV (o7 i vs) (o7 i its)
 |_,_,i,.nil=>.nil
 |_,_,i,.cons a r=>.cons ⟨rfl,a⟩ (a60 (i+1) r)
theorem a08{K:AO}{H:Hp}:∀{ds:List D}{vs:List V}(i:Nat),ds.length=vs.length->(o7 i ds).map (·.1)=(o7 i vs).map (·.1)
 |[],[],i,_=>rfl
 |d::ds,v::vs,i,h=>by simp only[o7,Aa];rw[a08 (K:=K) (H:=H) (i+1) (by simpa using h)]
 |[],_::_,_,h=>by simp at h
 |_::_,[],_,h=>by simp at h
theorem ak1{α:Type}:∀(l:List α)(i:Nat),(o7 i l).map (·.2)=l
 |[],_=>rfl
 |x::r,i=>by simp[o7,ak1 r (i+1)]
def cl9{K:AO}{H:Hp}{ds:List D}{vs:List V}(r:IsDs K H ds vs):IsKs K H (o7 0 ds) (o7 0 vs):=⟨a08 (K:=K) (H:=H) 0 r.len,by rw[ak1,ak1];exact r⟩
def b28:BA "dict"=AA (.type "dict"):=by decide+kernel
section
variable {X:Cx} {a b:AS} {ta tb:DT} {pos apos p:Pos}
def cs6(hu:X.A.units+200<Bk)(ha:PE X a (up X.K ta))(hb:PE X b (up X.K tb))(hbase:∀i p p',a≠.Call (.Name i p) [] [] p')(hs:∀e p,b≠.Starred e p)(hline:(apos.endLine==pos.line)=AC):
  PE X (.Call (.Attribute a "get" apos) [b] [] pos) (up X.K λenv st Q=>ta env st λx st1=>aq0 x st1∧tb env st1 λy st2=>aq3 x y st2 Q):=
 PE.imp (ay7 (by lia) ha hb ⟨A8 hbase,by rw[l7 hs];rfl,hline,by rw[l7 hs];rfl⟩) λσ H Q q=>by
  obtain⟨env,st,Qd,hE,hS,ht,hq⟩:=q;refine⟨env,st,_,hE,hS,ht,λx d H1 st1 ev is rs q1=>?_⟩;obtain⟨hd,q1⟩:=q1;cases d<;>first|exact hd.elim|skip
  rename_i p;obtain⟨kvs,hp⟩:=hd;obtain⟨vs,hH,r⟩:=rs.dct hp;refine⟨p,is.ref_inv,.inl ⟨vs,.inl hH⟩,env,st1,_,hE.mono (ev.tk hS),rs,q1,λy e H2 st2 ev2 is2 rs2 q2=>?_⟩;cases e<;>first|exact q2.elim|skip
  rename_i i;obtain⟨kvs2,hp2,q2⟩:=q2;obtain⟨vs2,hH2,r2⟩:=rs2.dct hp2;refine⟨o5 vs2 (.inl i),by rw[is2.int_inv];exact u2.k (k:=.inl i) hH2,?_⟩
  rcases r2.look (.inl i)with⟨l1,l2⟩|⟨d,v,l1,l2,is3⟩
  ·rw[l2];rw[l1]at q2;exact hq _ _ _ st2 (ev.trans ev2) .non rs2 q2
  ·rw[l2];rw[l1]at q2;exact hq _ _ _ st2 (ev.trans ev2) is3 rs2 q2
def ck9{p2 pos2:Pos}(hc:X.calm=AC)(hg:Gl X "dict")(hm:X.mg "dict"=AE)(hg2:Gl X "enumerate")(hm2:X.mg "enumerate"=AE)(ha:PE X a (up X.K ta))(hs:∀e p,a≠.Starred e p):
  PE X (.Call (.Name "dict" p) [.Call (.Name "enumerate" p2) [a] [] pos2] [] pos) (up X.K λenv st Q=>ta env st λx st1=>∃ds,x=.tup ds∧ds.length<=1000000∧∀p,st1 p=AE->Q (.ref p) (b0 st1 p (.dct (o7 0 ds)))):=by
 intro pins s σ H Q I q;obtain⟨env,st,Qd,hE,hS,ht,hq⟩:=q;have hst:Ak [a] X.env=[(AG,eval a X.env)]:=by rw[l7 hs];rfl
 refine IS (F5 I hg hm b28 (BB (Q:=_) (Cp ?_) rfl rfl));refine IS (F5 I hg2 hm2 L2.ar7 (BB (thn (F6 ha hs pos2 pins s σ H (λvs H1=>∃v ds st1,vs=[v]∧Ev st H st1 H1∧IsD X.K H1 (.tup ds) v∧RelS X.K st1 H1∧ds.length<=1000000∧∀p,st1 p=AE->Qd (.ref p) (b0 st1 p (.dct (o7 0 ds)))) I
  ⟨env,st,(λds st1=>match ds with|[x]=>∃ds,x=.tup ds∧ds.length<=1000000∧∀p,st1 p=AE->Qd (.ref p) (b0 st1 p (.dct (o7 0 ds)))|_=>False),hE,hS,ht,λvs ds H' st' ev is hl rs q1=>?_⟩) λus s1 hh=>?_) hst rfl))
 ·match ds,hl with
  |[d],_=>
   obtain⟨v,ws,rfl,i1,i2⟩:=is.inv_cons;rw[i2.inv_nil];obtain⟨ds,rfl,q1⟩:=q1;exact⟨v,ds,st',rfl,ev,i1,rs,q1⟩
 obtain⟨vs,H1,I1,r1,v,ds,st1,e,ev,is,rs,hle,q1⟩:=hh;subst e;obtain⟨u,rfl,ru⟩:=r1.one;obtain⟨l,vs,rfl,qs,rr⟩:=is.tup_inv;cases ru;obtain⟨its,rv,L,hz⟩:=I1.seqB (b:=AC) qs;have n1:=rv.length;have hn:its.toArray.size=ds.length:=by rw[AY,<-n1,<-rr.len]
 refine ar5 (show s1.heap.IsTuple l its.toArray from L) λh1 he hit hsz kk=>?_;refine Do ?_;have I2:Inv X pins σ H1 {s1 with heap:=h1}:=I1.kept (t':=s1.toks) kk;have lt:=L.lt;refine bw0 (s:={s1 with heap:=h1}) (I2.ok.hd hc) (Em _) (BJ (Dt lt)) (BJ lt) (by rw[hn];exact hle) he hit (L.stay λo e=>kk _ o e) λh2 tk up D2=>?_;have sz:h1.objs.size=s1.heap.objs.size+2:=hsz;rw[cf2]at D2;replace D2:h2.DictOf (v2 X.prog X.w) h1.objs.size (o7 0 its):=D2;have hS0:s1.heap.objs.size<=h1.objs.size:=by rw[sz];lia
 have hf:H1 h1.objs.size=AE:=I1.hok.fresh hS0;have I3:Inv X pins σ (upd H1 h1.objs.size (.dK (o7 0 vs))) {s1 with heap:=h2,toks:=tk}:=I1.laid (t':=tk) (λb o e=>up b o (BJ (Dt (Au e))) (BJ (Au e)) (kk b o e)) hS0
  (an2 (by rw[ay8,<-rr.len];exact BF hle (by decide)) (beq_eq_false_iff_ne.mpr (GJ (Al I1.big hS0))) (a60 0 rv) D2)
 refine⟨.ref _,_,I3,rfl,?_⟩;exact hq _ (.ref h1.objs.size) _ (b0 st1 h1.objs.size (.dct (o7 0 ds))) (ev.trans (Ev.newS hf)) (.ref _) (rs.putNewD hf (cl9 rr)) (q1 _ (rs.free hf))
end
end Ek
namespace Ek
open PySem PySem.Spec PyProof.Rows L2
variable [Tbs]
end Ek
namespace Ek
open PySem PySem.Spec PyProof.Rows L2
variable [Tbs]
noncomputable abbrev Fz:HO:=.ext λ_=>True
def ao6:∀vs,Fz≠.lst vs:=λ_=>nofun
def ac0{P:Ai}{w:Ax}{H:Hp}{h:BC}{a:AI}{o:Obj}(e:h.get? a=AA o):l9 P w H h a (.frz o Fz):=⟨e,trivial,⟨o,e⟩,λ_ _ _ _=>trivial⟩
section
variable {X:Cx} {pins:List (AI×Obj)} {σ:L2.St} {H H':Hp} {s:AJ}
def by6{x:Str}{c:AI}{o:Obj}{v:Option AF}(I:L2.Inv X pins σ H s)(hl:X.env.cells.lookup x=AA c)(hfn:X.fn x=AG)(hab:X.s₀.heap.objs.size<=c)(hn:H c=AE)(ho:s.heap.get? c=AA o)(hd:o.data=.cell v):
  L2.Inv X pins σ (upd H c (.frz o Fz)) s:=by
 have nn:∀{b:AI}{u:HO},H b=AA u->b≠c:=λe=>t6 e hn;refine⟨I.ok,I.os,I.bare,⟨I.base.keep,I.base.slot,λb ob e n hx=>?_,I.base.there,λb xs e=>?_,λb ob u e=>?_,λb ps e=>?_⟩,I.loc,I.cell,?_,λx' c' e=>?_,λp hp=>?_,λb u e=>?_,I.len⟩
 ·rw[i7 (BJ (Al (Au e) hab))];exact I.base.free b ob e n hx
 ·have:=I.base.tups b xs e;rw[i7 (nn this)];exact this
 ·have:=I.base.frzs b ob u e;rw[i7 (nn this)];exact this
 ·obtain⟨m,q⟩:=I.base.tbls b ps e;exact⟨m,by rw[i7 (nn q)];exact q⟩
 ·rw[i7 (Av (I.cne x c hl))];exact I.free
 ·by_cases hc:c'=c
  ·subst hc;have:=I.ok.inj x' x c' e hl;subst this;exact .inr ⟨hfn,o,Fz,o9⟩
  ·rw[i7 hc];exact I.freeC x' c' e
 ·obtain⟨e,n,ne,nf,d⟩:=I.pin p hp;refine⟨e,?_,ne,nf,d⟩;rw[i7 λz=>?_]
  ·exact n
  ·rw[z,ho]at e;exact d v (by rw[<-Ar e];exact hd)
 ·by_cases hb:b=c
  ·subst hb;rw[o9]at e;cases e;exact ac0 ho
  ·rw[i7 hb]at e;exact(I.hok b u e).stay (λ_ _ _ q=>q) (λa r=>by rw[i7 (nn r)];exact r) λa xs r=>by rw[i7 (nn r)];exact r
def a72{K:AO}(e:C7 H H'):TK K H H':=⟨⟨λa xs q=>by
 rcases q with(q|⟨o',q⟩)|q
 ·exact .inl (.inl (e _ _ q))
 ·exact .inl (.inr ⟨o',e _ _ q⟩)
 ·exact .inr q,λa xs q=>e _ _ q⟩,λa o u q _=>e _ _ q⟩
def ax8{K:AO}{a:AI}{o:Ob}(z:ObR K H a o):∃u,H a=AA u∧∀ps,u≠.tbl ps:=by
 cases o with
 |lst ds=>obtain⟨vs,w1,_⟩:=z;exact⟨_,w1,λ_=>nofun⟩
 |fro ds=>
  obtain⟨vs,w1|⟨u,w1⟩,_⟩:=z
  ·exact⟨_,w1,λ_=>nofun⟩
  ·exact⟨_,w1,λ_=>nofun⟩
 |dct kvs=>obtain⟨vs,w1,_⟩:=z;exact⟨_,w1,λ_=>nofun⟩
 |dtt kvs=>obtain⟨vs,w1,_⟩:=z;exact⟨_,w1,λ_=>nofun⟩
 |ins c fs=>obtain⟨C,dx,vs,w1,_⟩:=z;exact⟨_,w1,λ_=>nofun⟩
def b83{K:AO}{st:Sto}(r:RelS K st H)(e:C7 H H'):RelS K st H':=r.stay (a72 e) (λa o h=>by
 obtain⟨u,hu,_⟩:=ax8 (r.ob a o h);rw[hu,e _ _ hu]) λa ps h=>e _ _ h
def ck6{st:Sto}(e:C7 H H'):Ev st H st H':=λa o h k=>⟨⟨o,e _ _ h,.inl rfl⟩,k⟩
theorem at9(I:L2.Inv X pins σ H s):∀(xs:List Str),(∀x∈xs,X.fn x=AG∧X.ow x=AC∧∃c,X.env.cells.lookup x=AA c) ->
  ∃H',L2.Inv X pins σ H' s∧C7 H H'∧∀x∈xs,∃c o u,X.env.cells.lookup x=AA c∧H' c=AA (.frz o u)∧(∀vs,u≠.lst vs)∧s.heap.get? c=AA o
 |[],_=>⟨H,I,C7.refl H,λx h=>absurd h Ae⟩
 |x::xs,h=>by
  obtain⟨H1,I1,e1,f1⟩:=at9 I xs λy hy=>h y (Ao _ hy);obtain⟨hfn,how,c,hc⟩:=h x Br;obtain⟨v,o,ho,hd⟩:=I1.cell x c hc
  rcases I1.freeC x c hc with hn|⟨_,o',u,hz⟩
  ·have I2:=by6 I1 hc hfn (I1.ok.cab x c (.inr how) hc) hn ho hd;have e2:C7 H1 (upd H1 c (.frz o Fz)):=λb u q=>by rw[i7 (t6 q hn)];exact q
   refine⟨_,I2,e1.trans e2,λy hy=>?_⟩
   rcases AM.mp hy with rfl|hy
   ·exact⟨c,o,Fz,hc,o9,ao6,ho⟩
   ·obtain⟨c',o',u',a1,a2,a3,a4⟩:=f1 y hy;exact⟨c',o',u',a1,e2 _ _ a2,a3,a4⟩
  ·refine⟨H1,I1,e1,λy hy=>?_⟩
   rcases AM.mp hy with rfl|hy
   ·obtain⟨z1,z2⟩:=I1.hok c _ hz;refine⟨c,o',u,hc,hz,λvs w=>?_,z1⟩;subst w;obtain⟨_,its,n,_,z3⟩:=z2;rw[ho]at z3;cases z3;cases hd
   ·exact f1 y hy
end
def at1{l:List AF}(h:Dw l):l=[]∨∃i s j t v r,l=.int i s::.int j t::v::r∧Dw r:=by
 unfold Dw at h
 split at h
 ·exact .inl rfl
 ·exact .inr ⟨_,_,_,_,_,_,rfl,h⟩
 ·exact h.elim
theorem as2{a b:Int}{s t:Tok}{c:AF}:∀(n:Nat)(l:List AF),l.length<=n->Dw l->Dw (l++[.int a s,.int b t,c])
 |0,l,hn,_=>by
  have:l=[]:=Ay (by lia);subst this;exact trivial
 |n+1,l,hn,h=>by
  rcases at1 h with rfl|⟨i,s',j,t',v,r,rfl,hr⟩
  ·exact trivial
  ·simp only[AW]at hn;exact(as2 n r (by lia) hr:Dw (r++_))
theorem au5{pos:Pos}{cv:AF}{a b:Int}{s t:Tok}{c:AF}:∀(n:Nat)(l:List AF),l.length<=n->Dw l->FX pos (l++[.int a s,.int b t,c])=AA cv->FX pos l=AA cv∨cv=c
 |n,l,hn,h,q=>by
  rcases at1 h with rfl|⟨i,s',j,t',v,r,rfl,hr⟩
  ·have h':(if a==pos.line&&b==pos.col then AA c else AE)=AA cv:=q
   split at h'
   ·exact .inr (Ar h').symm
   ·cases h'
  ·cases n with
   |zero=>simp at hn
   |succ n=>
    simp only[AW]at hn;have q':(if i==pos.line&&j==pos.col then AA v else FX pos (r++[.int a s,.int b t,c]))=AA cv:=q;show(if i==pos.line&&j==pos.col then AA v else FX pos r)=AA cv∨cv=c
    split at q'
    ·rename_i hc;rw[if_pos hc];exact .inl q'
    ·rename_i hc;rw[if_neg hc];exact au5 n r (by lia) hr q'
end Ek
namespace Ek
open PySem PySem.Spec PyProof.Rows L2
variable [Tbs]
noncomputable def G2(name qual:Str)(params:Cr)(fb:DM)(scope:BH)(cl:List (Str×AI))(doc pm cv ct:AF):Ba:=
 {name,qualname:=qual,params,body:=fb,scope,globals:=AN,closure:=cl,defaults:=.none,kwdefaults:=.none,doc:=doc,pyModule:=pm,annotations:=AE,code:=cv,closureTuple:=ct,builtins:=Ck}
noncomputable def M4(fd:Ba):Obj:={cls:=.type "function",data:=.func fd}
noncomputable def S5(mg:Str->Option AF)(h:BC):Prop:=∃bm ob,mg "__builtins__"=AA (.ref bm)∧bm≠Ck∧h.get? bm=AA ob∧ob.cls=.type "module"∧ob.dict=AA Ck∧ob.data=.plain
structure LamOk(X:Cx):Prop where
 tab:∃c P,X.env.code=.ref c∧W.CodeHd X.base c P∧P∈Tbs.ps
 bm:S5 X.mg X.base
section
variable {X:Cx} {pins:List (AI×Obj)} {σ:L2.St} {H:Hp} {s:AJ} {st:Sto}
structure Made(X:Cx)(pins:List (AI×Obj))(σ:L2.St)(H:Hp)(st:Sto)(f:AI)(fd:Ba)(H':Hp)(s':AJ):Prop where
 inv:L2.Inv X pins σ H' s'
 tk:TK X.K H H'
 ev:Ev st H st H'
 rs:RelS X.K st H'
 fn:H' f=AA (.frz (M4 fd) Fz)
 cd:M5 H' fd.code
def az6{fd:Ba}{h':BC}{tk:Nat}(I:L2.Inv X pins σ H s)(rs:RelS X.K st H)(hk:∀b o,s.heap.get? b=AA o->h'.get? b=AA o)(hsz:s.heap.objs.size<=h'.objs.size)(cd:M5 H fd.code):
  Made X pins σ H st h'.objs.size fd (upd H h'.objs.size (.frz (M4 fd) Fz)) {s with heap:=h'.push (M4 fd),toks:=tk}:=by
 have hn:H h'.objs.size=AE:=I.hok.fresh hsz;exact⟨I.laid (λb o e=>AQ _ (hk b o e)) hsz (ac0 (Ap _ rfl)),TK.new hn,Ev.new hn,rs.new hn,o9,cd.mono (K:=X.K) (TK.new hn)⟩
def ay4{P c':AI}{ps:Array AF}{fd:Ba}{h':BC}{tk:Nat}{i j:Int}{t1 t2:Tok}{q:Str}(I:L2.Inv X pins σ H s)(rs:RelS X.K st H)(hP:H P=AA (.tbl ps))(hT:TabOk H ps)
  (hx:Ei P s.heap h') (hc:s.heap.objs.size<=c') (hlt:c'<h'.objs.size) (hr:h'.CodeRec (.ref c') q) (ht:h'.get? P=AA (Gp (ps++#[.int i t1,.int j t2,.ref c']))) (hcd:fd.code=.ref c') :
  ∃H',Made X pins σ H st h'.objs.size fd H' {s with heap:=h'.push (M4 fd),toks:=tk}:=by
 obtain⟨c2,oc,vs,t,e2,hoc,hd,hv⟩:=hr;cases e2;have hPs:s.heap.get? P=AA (Gp ps):=I.hok P _ hP;have hsz:s.heap.objs.size<=h'.objs.size:=GH (IE hc hlt);have n1:H c'=AE:=I.hok.fresh hc;have n2:H h'.objs.size=AE:=I.hok.fresh hsz;have cf:c'≠h'.objs.size:=BJ hlt;have cP:P≠c':=λz=>by rw[z,n1]at hP;cases hP
 have fP:P≠h'.objs.size:=λz=>by rw[z,n2]at hP;cases hP
 let H':Hp:=upd (upd (upd H c' (.frz oc Fz)) h'.objs.size (.frz (M4 fd) Fz)) P (.tbl (ps++#[.int i t1,.int j t2,.ref c']))
 have gP:H' P=AA (.tbl (ps++#[.int i t1,.int j t2,.ref c'])):=o9;have gf:H' h'.objs.size=AA (.frz (M4 fd) Fz):=by show upd _ _ _ _=_;rw[i7 (Av fP)];exact o9
 have gc:H' c'=AA (.frz oc Fz):=by show upd _ _ _ _=_;rw[i7 (Av cP),i7 cf];exact o9
 have ge:∀b,b≠P->b≠h'.objs.size->b≠c'->H' b=H b:=λb b1 b2 b3=>by show upd _ _ _ _=_;rw[i7 b1,i7 b2,i7 b3]
 have go:∀b u,H b=AA u->b≠P->H' b=AA u:=λb u e b1=>by rw[ge b b1 (t6 e n2) (t6 e n1)];exact e
 have nt:∀b u,H b=AA u->(∀ps,u≠.tbl ps)->b≠P:=λb u e n z=>by rw[z,hP]at e;cases e;exact n _ rfl
 have hk:∀b o,b≠P->s.heap.get? b=AA o->(h'.push (M4 fd)).get? b=AA o:=λb o n e=>AQ _ (hx b o n e);have TKH:TK X.K H H':=⟨⟨λa xs z=>by
  rcases z with(z|⟨o',z⟩)|z
  ·exact .inl (.inl (go _ _ z (nt _ _ z λ_=>nofun)))
  ·exact .inl (.inr ⟨o',go _ _ z (nt _ _ z λ_=>nofun)⟩)
  ·exact .inr z,λa xs z=>go _ _ z (nt _ _ z λ_=>nofun)⟩,λa o u z _=>go _ _ z (nt _ _ z λ_=>nofun)⟩
 have CF:M5 H' (.ref c'):=⟨c',oc,Fz,vs,q,t,rfl,gc,ao6,hd,hv⟩;refine⟨H',I.un (h':=h'.push (M4 fd)) ⟨λb o e n _ _=>?_,λb o e n _ _=>?_,λb o e n _=>?_,λb o e _=>?_,λb xs e=>?_,λb o u e=>?_,λb qs e=>?_⟩ (λb u e=>?_),TKH,λa o e k=>?_,⟨λa o e=>?_,λP0 hP0=>?_⟩,gf,by rw[hcd];exact CF⟩
 ·exact hk b o (λz=>by rw[z,hP]at n;cases n) e
 ·exact⟨o.slots,hk b o (λz=>by rw[z,hP]at n;cases n) e⟩
 ·have lb:=Au e;rw[ge b (λz=>by rw[z,hP]at n;cases n) (BJ (Al lb hsz)) (BJ (Al lb hc))];exact n
 ·by_cases hb:b=P
  ·subst hb;exact⟨_,AQ _ ht⟩
  ·exact⟨o,hk b o hb e⟩
 ·exact go _ _ e (nt _ _ e λ_=>nofun)
 ·exact go _ _ e (nt _ _ e λ_=>nofun)
 ·by_cases hb:b=P
  ·subst hb;rw[hP]at e;cases e;exact⟨_,gP⟩
  ·exact⟨#[],by rw[go _ _ e hb];simp⟩
 ·by_cases b1:b=P
  ·subst b1;rw[gP]at e;cases e;exact AQ _ ht
  by_cases b2:b=h'.objs.size
  ·subst b2;rw[gf]at e;cases e;exact ac0 (Ap _ rfl)
  by_cases b3:b=c'
  ·subst b3;rw[gc]at e;cases e;exact ac0 (AQ _ hoc)
  rw[ge b b1 b2 b3]at e;refine(I.hok b u e).stay (λc v hc' z=>hk c v ?_ z) (λa z=>go _ _ z (nt _ _ z λ_=>nofun)) λa xs z=>go _ _ z (nt _ _ z λ_=>nofun)
  rcases hc' with rfl|hc'
  ·exact b1
  ·exact nt _ _ hc' λ_=>nofun
 ·by_cases ha:a=P
  ·subst ha;rw[hP]at e;cases e;exact⟨⟨_,gP,.inr ⟨_,_,rfl,rfl⟩⟩,k⟩
  ·exact⟨⟨o,go _ _ e ha,.inl rfl⟩,k⟩
 ·have z:=rs.ob a o e;obtain⟨u,hu,hn⟩:=ax8 z;have ea:H' a=H a:=by rw[hu];exact go _ _ hu (nt _ _ hu hn)
  cases o with
  |lst ds=>obtain⟨vs,q,w⟩:=z;exact⟨vs,by rw[ea];exact q,w.mono TKH⟩
  |fro ds=>
   obtain⟨vs,q|⟨o',q⟩,w⟩:=z
   ·exact⟨vs,.inl (by rw[ea];exact q),w.mono TKH⟩
   ·exact⟨vs,.inr ⟨o',by rw[ea];exact q⟩,w.mono TKH⟩
  |dct kvs=>obtain⟨vs,q,w⟩:=z;exact⟨vs,by rw[ea];exact q,w.mono TKH⟩
  |dtt kvs=>obtain⟨vs,q,w,t⟩:=z;exact⟨vs,by rw[ea];exact q,w.mono TKH,t⟩
  |ins c fs=>obtain⟨C,dx,vs,q,n,w⟩:=z;exact⟨C,dx,vs,by rw[ea];exact q,n,w.mono TKH⟩
 ·by_cases hb:P0=P
  ·subst hb;refine⟨_,gP,?_,λpos cv hcv=>?_⟩
   ·rw[Eo];exact as2 _ _ (AU _) hT.tr
   ·rw[Eo]at hcv
    rcases au5 _ _ (AU _) hT.tr hcv with z|z
    ·exact(hT.co pos cv z).mono TKH
    ·rw[z];exact CF
  ·obtain⟨qs,e,o⟩:=rs.tb P0 hP0;exact⟨qs,go _ _ e hb,o.tr,λpos cv hcv=>(o.co pos cv hcv).mono TKH⟩
def cl8{name qual:Str}{params:Cr}{fb:DM}{scope:BH}{pos:Pos}{line:Nat}{cl:List (Str×AI)}{Q:AF->AJ->Prop}(I:L2.Inv X pins σ H s)(rs:RelS X.K st H)(L:LamOk X)(hcl:HR scope X.env=pure cl)
  (h:∀f doc pm cv ct H' s',Made X pins σ H st f (G2 name qual params fb scope cl doc pm cv ct) H' s'->Q (.ref f) s') :
  AT (model X.prog X.w) X.A (makeFunction name qual params fb scope X.env [] [] [] pos line) Q X.xe s:=by
 obtain⟨c,P,hcode,C,hPs⟩:=L.tab;obtain⟨ps,hP,hT⟩:=rs.tb P hPs;have hPh:s.heap.get? P=AA (Gp ps):=I.hok P _ hP;have hg:s.heap.Ns AN X.mg:=I.mod.glob.keeps I.bk;have hgP:AN≠P:=λz=>by
  obtain⟨o,es,ep,e,hd,_⟩:=hg;rw[z,hPh]at e;cases e;cases hd
 have hB:s.heap.BuiltinsAt X.mg P:=by
  obtain⟨bm,ob,b1,b2,b3,b4,b5,b6⟩:=L.bm;have b3':=I.bk _ _ b3;refine⟨bm,ob,b1,b2,λz=>?_,λz=>?_,b3',b4,b5,b6⟩
  ·obtain⟨o,es,ep,e,hd,_⟩:=hg;rw[<-z,b3']at e;cases e;rw[b6]at hd;cases hd
  ·rw[z,hPh]at b3';cases b3';cases b4
 have C':=C.keeps I.bk;cases hh:FX pos ps.toList with
 |none=>
  cases fb with
  |stmts body=>
   refine W.makeFunction_K (mg:=X.mg) hcl I.ok.glob hg hcode C' hPh hT.tr hh hgP hB λc' ct doc h' tk hx hc hlt hr ht=>?_;obtain⟨H',M⟩:=ay4 (fd:=G2 name qual params (.stmts body) scope cl doc ((X.mg "__name__").getD .none) (.ref c') ct) (tk:=tk) I rs hP hT hx hc hlt hr ht rfl;exact h _ _ _ _ _ _ _ M
  |expr body=>
   refine W.kla_makeFunction (mg:=X.mg) hcl I.ok.glob hg hcode C' hPh hT.tr hh hgP hB λc' ct h' tk hx hc hlt hr ht=>?_;obtain⟨H',M⟩:=ay4 (fd:=G2 name qual params (.expr body) scope cl .none ((X.mg "__name__").getD .none) (.ref c') ct) (tk:=tk) I rs hP hT hx hc hlt hr ht rfl;exact h _ _ _ _ _ _ _ M
 |some cv=>
  have cd:=hT.co pos cv hh;cases fb with
  |stmts body=>
   refine W.makeFunction_hit (mg:=X.mg) hcl I.ok.glob hg hcode C' hPh hT.tr hh hB λct doc h' tk hk hsz=>?_;exact h _ doc ((X.mg "__name__").getD .none) cv ct _ _ (az6 (fd:=G2 name qual params (.stmts body) scope cl doc ((X.mg "__name__").getD .none) cv ct) (tk:=tk) I rs hk hsz cd)
  |expr body=>
   refine W.kla_makeFunctionHit (mg:=X.mg) hcl I.ok.glob hg hcode C' hPh hT.tr hh hB λct h' tk hk hsz=>?_;exact h _ .none ((X.mg "__name__").getD .none) cv ct _ _ (az6 (fd:=G2 name qual params (.expr body) scope cl .none ((X.mg "__name__").getD .none) cv ct) (tk:=tk) I rs hk hsz cd)
end
end Ek
namespace Ek
open PySem PySem.Spec PyProof.Rows L2
variable [Tbs]
theorem ax0{K:AO}{H:Hp}{env:i9}{σ:L2.St}(hE:RelE K H env σ):∀{cp:List Nat}{cs:List D},L3 env cp=AA cs ->
  ∃us:List V,IsDs K H cs us∧us.length=cp.length∧∀(i:Nat)v,us[i]?=AA v->∃j,cp[i]?=AA j∧σ[j]?=AA (AA v)
 |[],cs,h=>by
  cases h;exact⟨[],.nil,rfl,λi v z=>by simp at z⟩
 |j::cp,cs,h=>by
  unfold L3 at h
  split at h
  ·rename_i d ds h1 h2;cases h;obtain⟨us,r,l,a⟩:=ax0 hE h2;obtain⟨v,hv,is⟩:=hE.at' j d h1;refine⟨v::us,.cons is r,by simp[l],λi w z=>?_⟩;cases i with
   |zero=>simp at z;subst z;exact⟨j,rfl,hv⟩
   |succ i=>exact a i w (by simpa using z)
  ·cases h
structure NestOk(X:Cx)(params:Cr)(fb:DM)(scope:BH)(np:Nat)(N ps:List Str)(cp:List Nat)(b:Ss):Prop where
 sc:FnScC N ps scope
 lp:ps.length=np
 mt:Tbs.mt b scope N fb
 bind:∀(name qual:Str)(cl:List (Str×AI))(doc pm cv ct:AF)(us:List AF),us.length=ps.length->BX (G2 name qual params fb scope cl doc pm cv ct) ⟨us,[]⟩=pure (ps.zip us)
 cap:∀(i j:Nat),cp[i]?=AA j->∃x,X.N[j]?=AA x∧N[np+i]?=AA x∧(x,As)∈scope.names
 fre:∀x,(x,As)∈scope.names->(∃i:Nat,∃j:Nat,cp[i]?=AA j∧X.N[j]?=AA x)∧X.env.scope.names.lookup x=AA .cell∧X.fn x=AG∧X.ow x=AC
section
variable {X:Cx} {pins:List (AI×Obj)} {σ:L2.St} {H:Hp} {s:AJ} {st:Sto}
def cg7{name qual:Str}{params:Cr}{fb:DM}{scope:BH}{pos:Pos}{line:Nat}{np:Nat}{N ps:List Str}{cp:List Nat}{b:Ss}{env:i9}{cs:List D}{Q:AF->AJ->Prop}
  (I:L2.Inv X pins σ H s) (rs:RelS X.K st H) (hE:RelE X.K H env σ) (L:LamOk X) (S:NestOk X params fb scope np N ps cp b) (hc:L3 env cp=AA cs)
  (h:∀f H' s',L2.Inv X pins σ H' s'->TK X.K H H'->Ev st H st H'->RelS X.K st H'->IsD X.K H' (.clo np N b cs) (.ref f)->Q (.ref f) s') :
  AT (model X.prog X.w) X.A (makeFunction name qual params fb scope X.env [] [] [] pos line) Q X.xe s:=by
 obtain⟨us,ius,lus,aus⟩:=ax0 hE hc
 let fs:List Str:=(scope.names.filter λy=>y.2==.free).map (·.1)
 have mfs:∀x,x∈fs↔(x,As)∈scope.names:=λx=>by
  simp only[fs,Ce,mem_filter,beq_iff_eq];constructor
  ·rintro⟨⟨y,k⟩,⟨h1,h2⟩,rfl⟩;simp only at h2;subst h2;exact h1
  ·intro h1;exact⟨(x,.free),⟨h1,rfl⟩,rfl⟩
 have hcel:∀x,(x,As)∈scope.names->∃c,X.env.cells.lookup x=AA c:=λx hx=>I.ok.has x (.inl (S.fre x hx).2.1);obtain⟨H1,I1,e1,f1⟩:=at9 I fs λx hx=>⟨(S.fre x ((mfs x).mp hx)).2.2.1,(S.fre x ((mfs x).mp hx)).2.2.2,hcel x ((mfs x).mp hx)⟩;have hcl:HR scope X.env=pure (t4 X.env.cells scope.names []):=ah3 λy hy hk=>by
  obtain⟨y,k⟩:=y;simp only at hk;subst hk;obtain⟨c,hc⟩:=hcel y hy;simp only[hc,HV]
 refine cl8 I1 (b83 rs e1) L hcl λf doc pm cv ct H2 s2 M=>?_;have tk:TK X.K H H2:=(a72 e1).trans M.tk;have val:∀(j:Nat)x v,X.N[j]?=AA x->σ[j]?=AA (AA v)->(x,As)∈scope.names->∃c o u w,(t4 X.env.cells scope.names []).lookup x=AA c∧H2 c=AA (.frz o u)∧(∀vs,u≠.lst vs)∧o.data=.cell (AA w)∧f9 v w:=λj x v hN hs hx=>by
  obtain⟨m,hn,hl⟩:=I1.loc;obtain⟨w,r,l⟩:=hl j x v hN hs (.inr (.inl (S.fre x hx).2.1));obtain⟨c,o,u,a1,a2,a3,a4⟩:=f1 x ((mfs x).mpr hx)
  rcases l with⟨k1,_⟩|⟨_,c2,l1,o2,l2,l3⟩
  ·have k1':X.env.scope.names.lookup x=AA .local:=k1;rw[(S.fre x hx).2.1]at k1';cases k1'
  ·rw[a1]at l1;cases l1;rw[a4]at l2;cases l2;exact⟨c,o,u,w,Y8 a1 hx,M.tk.2 _ _ _ a2 a3,a3,l3,r⟩
 have un:∀x c,(t4 X.env.cells scope.names []).lookup x=AA c->X.env.cells.lookup x=AA c∧(x,As)∈scope.names:=λx c hx=>L4 hx;refine h f H2 s2 M.inv tk ((ck6 e1).trans M.ev) M.rs (.clo (us:=us) ⟨G2 name qual params fb scope (t4 X.env.cells scope.names []) doc pm cv ct,ps,⟨S.sc,S.lp,S.mt,S.bind name qual _ doc pm cv ct,rfl,rfl,λx hx=>?_,λx c hx=>(un x c hx).2,λx y c hx hy=>I.ok.inj x y c (un x c hx).1 (un y c hy).1⟩,⟨⟨_,_,M.fn,ao6,rfl⟩,M.cd,λx c hx=>?_,λi v hv=>?_⟩⟩ (by rw[ius.len]) (ius.mono tk).at')
 ·obtain⟨c,hc⟩:=hcel x hx;exact⟨c,Y8 hc hx⟩
 ·obtain⟨⟨i,j,hi,hj⟩,_⟩:=S.fre x (un x c hx).2;have hil:i<us.length:=by rw[lus];exact(AR.mp hi).1
  obtain⟨j',hj',hs'⟩:=aus i _ (AL hil);rw[hi]at hj';cases hj';obtain⟨c',o,u,w,b1,b2,b3,b4,b5⟩:=val j x _ hj hs' (un x c hx).2;have hx':(t4 X.env.cells scope.names []).lookup x=AA c:=hx;rw[b1]at hx';cases hx';exact⟨o,u,w,b2,b3,b4⟩
 ·obtain⟨j,hj,hs⟩:=aus i v hv;obtain⟨x,n1,n2,n3⟩:=S.cap i j hj;obtain⟨c,o,u,w,b1,b2,b3,b4,b5⟩:=val j x v n1 hs n3;exact⟨x,c,o,u,w,n2,b1,b2,b3,b4,b5⟩
def co1{name:Str}{params:Cr}{body:List BR}{scope:BH}{pos:Pos}{i np:Nat}{N ps:List Str}{cp:List Nat}{b:Ss}(hN:X.N.Nodup)(hi:X.N[i]?=AA name)(hx:Loc X.env.scope name)(hf:X.fn name=AC∨X.env.scope.names.lookup name=AA .local)
  (h1:params.defaults=[]) (h2:params.kw_defaults=[]) (h3:∀env,annTrees params AE env=[]) (L:LamOk X) (S:NestOk X params (.stmts body) scope np N ps cp b) :
  PS X (.FunctionDef name params body [] AE [] scope AE name pos) (upS X.K λF env st=>∃cs,L3 env cp=AA cs∧F.nx (env.set i (AA (.clo np N b cs))) st):=by
 intro pins s σ H F I q;obtain⟨env,st,Fd,hE,hS,⟨cs,hc,ht⟩,hq⟩:=q;refine W.nestDef_K h1 h2 (h3 _) (cg7 I hS hE L S hc λf H' s' I' tk ev rs is=>?_);refine Y7 I' hN hi hx (v:=.ref f) rfl (λs2 I2=>?_) hf;exact⟨_,H',I2,hq.nx _ _ H' st ev ((hE.mono tk).set is i) rs ht⟩
end
end Ek
namespace Ek
open PySem PySem.Spec PyProof.Rows L2
variable [Tbs]
variable{w:Ax}{fd:Ba}{vs:List V}{N:List Str}{H:Hp}
noncomputable def cb3(fb:DM)(env:Env):Code:=match fb with
 |.stmts b=>.func b env
 |.expr e=>.expr e env
def b91{prog:Ai}{A:BL}{R:Hx->AJ->Prop}{s:AJ}{a c:AI}{args:Args}{o oc:Obj}{vs:Array AF}{q:Str}{t:Tok}(hroom:A.depth<HN)(ho:s.heap.get? a=AA o)(hd':o.data=.func fd)
  (hco:fd.scope.isCoroutine=AG) (hgen:fd.scope.isGenerator=AG) (hc:fd.code=.ref c) (hoc:s.heap.get? c=AA oc) (hdc:oc.data=.fields vs) (hq:vs[1]?=AA (.str q t))
  (h:AT (model prog w) A.in1 (BX fd args) (λbinds s₁=>
   AT (model prog w) A.in1 (Kf fd.scope fd.globals fd.closure binds (q++".<locals>.") (AA a) fd.code AE fd.builtins)
    (λenv s₂=>s₂.heap.NoLimit∧Dq (model prog w) A (cb3 fd.body env) R s₂) (λe s'=>R (.error e) s') s₁) (λe s'=>R (.error e) s') s) :
  Dq (model prog w) A (.call (.ref a) args) R s:=by
 refine codeAny_of_tree ?_;show AT _ A.in1 (callAny (.ref a) args) _ _ s;simp only[callAny];refine AD (wpAny_load ho ?_);simp only[hd',callFunction,hco,hgen,hc];rw[hc]at h;refine AD (m:=field (.ref c) 1) (BG hoc hdc hq (AD (AK ?_)));refine AD (Bd h (λbinds s₁ h₁=>AD (Bd h₁ (λenv s₂ h₂=>AD (wpAny_enterFrame h₂.1 hroom
  ?_)) λ_ _ h'=>h')) λ_ _ h'=>h')
 have h3:=h₂.2;cases hb:fd.body with
 |stmts b=>rw[hb]at h3;exact AK (And.intro rfl h3)
 |expr e=>rw[hb]at h3;exact AK (And.intro rfl h3)
theorem au4{x:Str}{u:AF}:∀{ps:List Str}{us:List AF}{i:Nat},ps.Nodup->ps[i]?=AA x->us[i]?=AA u->(ps.zip us).reverse.lookup x=AA u
 |[],_,_,_,h,_=>by simp at h
 |_::_,[],_,_,_,h=>by simp at h
 |p::ps,w::us,i,nd,h1,h2=>by
  rw[ET,DJ,List.lookup_append];cases i with
  |zero=>
   simp at h1 h2;subst h1 h2;have:(ps.zip us).reverse.lookup p=AE:=by
    rw[List.lookup_eq_none_iff];intro y hy;have:=(Fs (List.mem_reverse.mp hy)).1;have ne:p≠y.1:=λz=>(BM.mp nd).1 (z▸this);simpa using ne
   rw[this];simp[Ct]
  |succ i=>
   rw[au4 (i:=i) (BM.mp nd).2 (by simpa using h1) (by simpa using h2)];rfl
noncomputable def cxC(P:Ai)(w:Ax)(K:AO)(mg:Str->Option AF)(base:BC)(N:List Str)(scope:BH)(cl:List (Str×AI))(q:Str)(f:AI)(cd:AF)(A:BL)(outer:List Env)(s:AJ)(H:Hp):Cx where
 prog:=P
 w:=w
 K:=K
 mg:=mg
 base:=base
 A:=A.deeper (newEnv scope s.heap.objs.size AN cl (q++".<locals>.") (AA f) cd AE Ck)
 N:=N
 s₀:=s
 H₀:=H
 env:=newEnv scope s.heap.objs.size AN cl (q++".<locals>.") (AA f) cd AE Ck
 outer:=outer
 stack:=newEnv scope s.heap.objs.size AN cl (q++".<locals>.") (AA f) cd AE Ck::outer
 ex:=[]
 calm:=AC
 fn:=λy=>!(scope.names.any λz=>z.1==y&&z.2==.free)
 pn:=[]
 xe:=λ_ _=>False
def bz9{P:Ai}{K:AO}{mg:Str->Option AF}{base:BC}{ps:List Str}{np:Nat}{b:Ss}{q:Str}{f:AI}{A:BL}{outer:List Env}{s:AJ}{h1:BC}{tk:Nat}{us:List AF}{us0:List V}
  (cf:CloF fd np N ps b) (cr:CloR H f fd np N us0) (hd:A.handled=AE) (e0:Env0 P w K mg base A outer s H) (hl:vs.length=ps.length) (r:f7 vs us)
  (hns:h1.Ns s.heap.objs.size (λx=>(ps.zip us).reverse.lookup x)) (hk:∀b o,s.heap.get? b=AA o->h1.get? b=AA o) :
  Inv (cxC P w K mg base N fd.scope fd.closure q f fd.code A outer s H) [] (v6 N (vs++us0)) H {s with heap:=h1,toks:=tk}:=by
 have S:=cf.sc;have noA:∀b:AI,b∉(cxC P w K mg base N fd.scope fd.closure q f fd.code A outer s H).ex:=λb z=>absurd (show b∈([]:List AI) from z) (by simp);have hpl:ps.length<=N.length:=by have:=congrArg Fu S.pre;rw[DD]at this;lia
 have hful:(vs++us0).length<=N.length:=by
  rw[Ac,hl];cases hu:us0.length with
  |zero=>lia
  |succ m=>
   have hm:m<us0.length:=by lia
   obtain⟨x,_,_,_,_,n1,_⟩:=cr.at' m _ (AL hm);have:=(AR.mp n1).1;have:=cf.np;lia
 have fnF:∀x c,fd.closure.lookup x=AA c->(!(fd.scope.names.any λz=>z.1==x&&z.2==.free))=AG:=λx c h=>by
  have hm:=cf.fre x c h;have:(fd.scope.names.any λz=>z.1==x&&z.2==.free)=AC:=Gk.mpr ⟨(x,.free),hm,by simp⟩;rw[this];rfl
 have celH:∀{c:AI}{o:Obj}{u:HO},H c=AA (.frz o u)->h1.get? c=AA o:=λ{c o u}e=>by
  obtain⟨z,_⟩:=e0.hok c _ e;exact hk _ _ z
 refine⟨⟨e0.mod,S.kind,rfl,rfl,AU _,λy z c h1 h2=>cf.inj y z c h1 h2,λy hy=>?_,λy c h hc=>?_,λ_=>hd,Gw e0.frames,.inr ⟨rfl,rfl⟩,λb z=>absurd z (noA b),e0.bs,e0.bsz,λb _ _=>noA b,λb z=>absurd z (noA b),e0.funs,e0.frf⟩,
  rfl,e0.bare,Un.kept hk,⟨_,hns,λi y v h1 h2 h3=>?_⟩,λy c h=>?_,e0.hok.fresh (AU _),λy c h=>?_,λp hp=>absurd (show p ∈ ([]:List (AI × Obj)) from hp) (by simp),e0.hok.kept hk,?_⟩
 ·have hy:fd.scope.names.lookup y=AA .cell∨fd.scope.names.lookup y=AA .free:=hy
  rcases hy with hy|hy
  ·exact absurd rfl (S.nocell _ (PySem.mem_of_lookup hy))
  ·exact cf.has y (PySem.mem_of_lookup hy)
 ·have hc':fd.closure.lookup y=AA c:=hc
  rcases h with h|h
  ·have h':(!(fd.scope.names.any λz=>z.1==y&&z.2==.free))=AC:=h;rw[fnF y c hc']at h';cases h'
  ·cases h
 ·have hi:i<(vs++us0).length:=by
   unfold L2.v6 at h2
   by_cases hi:i<(vs++us0).length
   ·exact hi
   ·rw[Aj (by simpa using hi)]at h2;rw[Cz]at h2
    split at h2<;>cases h2
  have ha:(vs++us0)[i]?=AA v:=by
   unfold L2.v6 at h2;rw[Ad (by simpa using hi),Am]at h2;cases e:(vs++us0)[i]? with
   |none=>rw[e]at h2;cases h2
   |some a=>rw[e]at h2;cases h2;rfl
  have h1':N[i]?=AA y:=h1
  by_cases hv:i<vs.length
  ·rw[Ad hv]at ha;obtain⟨u,hu,rv⟩:=r.get ha;have hp:ps[i]?=AA y:=by
    rw[<-S.pre,Gg (by lia)];exact h1'
   have ndP:ps.Nodup:=by rw[<-S.pre];exact S.nd.sublist (Hy _ _)
   exact⟨u,rv,.inl ⟨S.par y (BE hp),au4 ndP hp hu⟩⟩
  ·rw[Aj (by lia)]at ha;obtain⟨x,c,o',u',ww,n1,n2,n3,n4,n5,n6⟩:=cr.at' _ v ha;have e:np+(i-vs.length)=i:=by have:=cf.np;lia
   rw[e,h1']at n1;cases n1;exact⟨ww,n6,.inr ⟨.inr (S.fre _ (cf.fre y c n2) rfl),c,n2,o',celH n3,n5⟩⟩
 ·obtain⟨o',u',ww,n3,n4,n5⟩:=cr.cl y c h;exact⟨AA ww,o',celH n3,n5⟩
 ·obtain⟨o',u',ww,n3,n4,n5⟩:=cr.cl y c h;exact .inr ⟨fnF y c h,o',u',n3⟩
 ·unfold L2.v6;show _=N.length;rw[Ac,AV,DV];lia
noncomputable def cv5(X:Cx)(fb:DM)(Z:Sg)(b:Ss):Prop:=match fb with
 |.stmts l=>PSs X l (upS X.K (f8 Z b))
 |.expr x=>∃e,b=.cons (.ret e) .nil∧PE X x (up X.K (wpE Z e))
def at4{K:AO}{ds:List D}(r:IsDs K H ds vs):RelE K H (ds.map AA++AX (N.length-ds.length) AE) (L2.v6 N vs):=by
 refine⟨by simp[L2.v6,r.len],λi x h=>?_⟩;unfold L2.v6
 by_cases hi:i<ds.length
 ·rw[Ad (by simpa using hi),Am,AL hi]at h;simp only[Fq,Bo]at h;obtain⟨v,hv,is⟩:=r.get (AL hi);refine⟨v,?_,by rw[<-h];exact is⟩;rw[Ad (by rw[AV,<-r.len];exact hi),Am,hv];rfl
 ·rw[Aj (by simpa using hi),Cz]at h
  split at h<;>cases h
def by3{K:AO}{ds cs:List D}{us:List V}(r:IsDs K H ds vs)(r2:IsDs K H cs us):RelE K H (L9 N ds cs) (L2.v6 N (vs++us)):=at4 (r.append r2)
def cu3{P:Ai}{K:AO}{mg:Str->Option AF}{base:BC}{n np:Nat}{fa:AI}{ps:List Str}{b:Ss}{cs:List D}{Z:Sg}(cf:CloF fd np N ps b)
  (hbody:∀(q:Str)(A:BL)(outer:List Env)(s:AJ)(H:Hp),Room n (cxC P w K mg base N fd.scope fd.closure q fa fd.code A outer s H).A->cv5 (cxC P w K mg base N fd.scope fd.closure q fa fd.code A outer s H) fd.body Z b) :
  FnOk P w K mg base CX0 (n+1) fa fd ps (X0 K fa fd np N cs λds st Q=>ds.length=np∧f8 Z b {nx:=λ_ st'=>∃s2,Sub s2 st'∧Q .non s2,rt:=λd st'=>∃s2,Sub s2 st'∧Q d s2} (L9 N ds cs) st):=by
 refine⟨λvs H Q E hsp=>?_,λA outer s H args us vs Q E hr e0 hb r hsp=>?_⟩
 ·obtain⟨us0,ds,st,Qd,cr,ics,is,rs,hs,hq⟩:=hsp;rw[<-is.len,hs.1,cf.np]
 ·obtain⟨us0,ds,st,Qd,cr,ics,is,rs,⟨hlen,hs⟩,hq⟩:=hsp;have S:=cf.sc;have hl:vs.length=ps.length:=by rw[<-is.len,hlen,cf.np]
  have lim:s.heap.NoLimit:=e0.mod.nolimit.keeps λb o e=>(e0.bs b o e).1;obtain⟨o,u,f1,f2,f3⟩:=cr.ex;obtain⟨c,oc,uc,vc,q,t,c1,c2,c3,c4,c5⟩:=cr.cd;obtain⟨ho,_⟩:=e0.hok fa _ f1;obtain⟨hoc,_⟩:=e0.hok c _ c2;have hloc:∀y∈ps.zip us,fd.scope.names.lookup y.1=AA .local:=λ⟨x,v⟩hy=>S.par x (Fs hy).1;refine b91 hr.depth ho f3 S.co S.gen c1 hoc c4 c5 (hb _ _ _ _ ?_);rw[cf.gl,cf.bl];refine IX S.nocell hloc (λh1 hns hsb=>?_) S.kind;have hk:∀b o,s.heap.get? b=AA o->h1.get? b=AA o:=λb o e=>hsb.extBut b o (BJ (Au e)) (AQ _ e);refine⟨lim.keeps hk,?_⟩;have I:=bz9 (q:=q) (tk:=s.toks+(ps.zip us).length) cf cr hr.hd e0 hl r hns hk;have hB:=hbody q A outer s H (hr.deeper _);have hE:RelE K H (L9 N ds cs) (v6 N (vs++us0)):=by3 is ics;have fin:∀{σ':L2.St}{H':Hp}{v:V}{u:AF}{s':AJ},Inv (cxC P w K mg base N fd.scope fd.closure q fa fd.code A outer s H) [] σ' H' s'->f9 v u->Q v H'->CE outer P w H s Q u s':=
   λ{σ' H' v u s'}J rv q=>⟨v,H',J.os,J.bare,J.base,J.hok,rv,q⟩
  have rt:∀v d H' st',Ev st H st' H'->IsD K H' d v->RelS K st' H'->(∃s2,Sub s2 st'∧Qd d s2)->Q v H':=λv d H' st' ev is' rs'⟨s2,sub,q⟩=>hq v d H' s2 (ev.drop sub) is' (rs'.sub sub) q;cases hfb:fd.body with
  |stmts l=>
   rw[hfb]at hB;refine codeAny_func (Bd (hB [] _ _ H {nx:=λ_ H'=>Q .non H',rt:=Q} I ⟨L9 N ds cs,st,_,hE,rs,hs,λenv σ H' st' ev hE hS q=>rt _ .non H' st' ev .non hS q,λenv σ H' st' ev hE hS q=>q.elim,λenv σ H' st' ev hE hS q=>q.elim,λv e H' st' ev is' rs' q=>rt v e H' st' ev is' rs' q⟩) (λfl s' hs=>?_) λe s' z=>z.elim);cases fl with
   |ret u=>
    obtain⟨v,σ',H',J,rv,q⟩:=hs;exact fin J rv q
   |next=>
    obtain⟨σ',H',J,q⟩:=hs;exact fin (v:=V.non) (u:=Bf) J rfl q
   |brk=>
    obtain⟨_,_,_,q⟩:=hs;exact AZ q
   |cont=>
    obtain⟨_,_,_,q⟩:=hs;exact AZ q
  |expr x=>
   rw[hfb]at hB;obtain⟨e,rfl,hB⟩:=hB;refine W.kla_codeExpr (Bd (hB [] _ _ H Q I ⟨L9 N ds cs,st,_,hE,rs,(show wpE Z e (L9 N ds cs) st _ from hs),λv d H' st' ev is' rs' q=>rt v d H' st' ev is' rs' q⟩) (λu s' hs=>?_) λe s' z=>z.elim);obtain⟨v,H',J,rv,q⟩:=hs;exact fin J rv q
end Ek
namespace Ek
open PySem PySem.Spec PyProof.Rows L2
variable [Tbs]
variable{x:AS}{C:AS->Prop}{g m:Str}{sc:BH}
noncomputable def P9:List Str:=["len","abs","int","sum","list","tuple","isinstance","max","range","enumerate","reversed","str","bool","min","sorted","zip","any","dict"]
noncomputable def isM(f:Str):Bool:=f.cps.contains 46
structure FOk(X:Cx)(f:Str)(sp:Spec):Prop where
 ex:∃k a fd ps,FnOk X.prog X.w X.K X.mg X.base CX0 k a fd ps (y3 X.K sp)∧Room k X.A∧X.mg f=AA (.ref a)∧Bh X.K (.ref a)=AC∧p8 X.K fd ps []∧Aw X.K AN f=AA (AA (.ref a))
noncomputable def r9:Str:=⟨#[33]⟩
noncomputable def v3(x:Str):Str:=⟨#[33]++x.cps⟩
noncomputable def Y3(p:Cr):Option (List Str):=if p.posonlyargs.isEmpty&&p.vararg.isNone&&p.kwonlyargs.isEmpty&&p.kw_defaults.isEmpty&&p.kwarg.isNone&&p.defaults.isEmpty&&p.args.all (·.annotation.isNone)&&AB (p.args.map (·.arg)).Nodup&&!p.args.isEmpty&&AB (p.args.length<=3)then AA (p.args.map (·.arg))else AE
noncomputable def ao2(sc:BH)(N:List Str)(scope:BH)(Nl ps:List Str)(np:Nat)(cp:List Nat):Bool:=
 (ps.length==np)&&(scope.kind==.function)&&!scope.isCoroutine&&!scope.isGenerator&&decide Nl.Nodup&&(Nl.take ps.length==ps)&&ps.all (λx=>scope.names.lookup x==AA .local)&&scope.names.all (λy=>!(y.2==.cell))&&
 scope.names.all (λy=>!(y.2==.free)||(scope.names.lookup y.1==AA .free&&sc.names.lookup y.1==AA .cell&&N.contains (v3 y.1)&&(Cs cp.length).any λi=>match cp[i]? with|some j=>N[j]?==AA y.1|none=>AG))&&
 (Cs cp.length).all (λi=>match cp[i]? with|some j=>(match N[j]? with|some x=>(Nl[np+i]?==AA x)&&scope.names.any (λz=>z.1==x&&z.2==.free)|none=>AG)|none=>AG)
noncomputable def glb(sc:BH)(f:Str):Bool:=sc.names.lookup f==AA .globalImplicit
noncomputable def ad0(sc:BH)(x:Str):Bool:=match sc.names.lookup x with
 |some .local=>AC|some .cell=>AC|some .free=>AC|_=>AG
noncomputable def K9(sc:BH)(x:Str):Bool:=match sc.names.lookup x with
 |some .local=>AC|some .cell=>AC|_=>AG
noncomputable def lcl(sc:BH)(x:Str):Bool:=sc.names.lookup x==AA .local
noncomputable def okN(x:Str):Bool:=!(x==("__debug__":Str))&&!(x==("__classdict__":Str))
noncomputable def be3(x:AS):Bool:=!([22,26,7].contains x.ctorIdx)
noncomputable def B3(x:AS):Bool:=!(x.ctorIdx==5)
noncomputable def O5(x:AS):Bool:=!([8,9,10].contains x.ctorIdx)
noncomputable def aq9(scope sc:BH):BH:=
 {scope with names:=scope.names.map λ(n,k)=>if(k==.free&&sc.kind==.function&&sc.names.lookup n==AA .cell)then(n,.cell)else(n,k)}
noncomputable def V6(sc scope:BH)(N Nc:List Str)(fr:List Nat)(k:Nat):Bool:=
 (scope.kind==.function)&&scope.names.all (λy=>!(y.2==.cell))&&scope.names.all (λy=>!(y.2==.local)||scope.names.lookup y.1==AA .local)&&
 scope.names.all (λy=>!(y.2==.free)||sc.names.lookup y.1==AA .cell||sc.names.lookup y.1==AA .free)&&scope.names.all (λy=>!(y.2==.free)||!(scope.names.any λz=>z.1==y.1&&z.2==.local))&&
 decide Nc.Nodup&&!(Nc.contains r9)&&(Nc.length==fr.length+k)&&((Cs fr.length).all λi=>match Nc[i]?,fr[i]? with
  |some x,AA j=>(N[j]?==AA x)&&scope.names.any (λz=>z.1==x&&z.2==.free)|_,_=>AG)
def an{a b:Bool}(h:(a&&b)=AC):a=AC∧b=AC:=Bool.and_eq_true_iff.1 h
def nt{b:Bool}(h:(!b)=AC):b=AG:=by cases b<;>first|rfl|cases h
def dE{p:Prop}[Decidable p]{f:p->Bool}{C:Prop}(h:(if h:p then f h else AG)=AC)(H:∀e,f e=AC->C):C:=by
 by_cases e:p
 ·rw[dif_pos e]at h;exact H e h
 ·rw[dif_neg e]at h;cases h
noncomputable def xBo(x:AS)(k:Kq->List AS->Pos->Bool):Bool:=if h:x.ctorIdx=0 then Ep x h k else AG
def br4{k:Kq->List AS->Pos->Bool}(h:xBo x k=AC)(H:∀o l p,k o l p=AC->C (.BoolOp o l p)):C x:=
 dE h λe=>Ep (motive_1:=λx=>∀e,Ep x e k=AC->C x) x e (λo l p _ h=>H o l p h) e
noncomputable def xBi(x:AS)(k:AS->Ec->AS->Pos->Bool):Bool:=if h:x.ctorIdx=2 then FH x h k else AG
def c33{k:AS->Ec->AS->Pos->Bool}(h:xBi x k=AC)(H:∀a o b p,k a o b p=AC->C (.BinOp a o b p)):C x:=
 dE h λe=>FH (motive_1:=λx=>∀e,FH x e k=AC->C x) x e (λa o b p _ h=>H a o b p h) e
noncomputable def xU(x:AS)(k:UnaryOp->AS->Pos->Bool):Bool:=if h:x.ctorIdx=3 then EX x h k else AG
def xU_{k:UnaryOp->AS->Pos->Bool}(h:xU x k=AC)(H:∀o a p,k o a p=AC->C (.UnaryOp o a p)):C x:=
 dE h λe=>EX (motive_1:=λx=>∀e,EX x e k=AC->C x) x e (λo a p _ h=>H o a p h) e
noncomputable def xIf(x:AS)(k:AS->AS->AS->Pos->Bool):Bool:=if h:x.ctorIdx=5 then FI x h k else AG
def c28{k:AS->AS->AS->Pos->Bool}(h:xIf x k=AC)(H:∀a b c p,k a b c p=AC->C (.IfExp a b c p)):C x:=
 dE h λe=>FI (motive_1:=λx=>∀e,FI x e k=AC->C x) x e (λa b c p _ h=>H a b c p h) e
noncomputable def xD(x:AS)(k:List (Option AS)->List AS->Pos->Bool):Bool:=if h:x.ctorIdx=6 then Fg x h k else AG
def xD_{k:List (Option AS)->List AS->Pos->Bool}(h:xD x k=AC)(H:∀a b p,k a b p=AC->C (.Dict a b p)):C x:=
 dE h λe=>Fg (motive_1:=λx=>∀e,Fg x e k=AC->C x) x e (λa b p _ h=>H a b p h) e
noncomputable def xLC(x:AS)(k:AS->List Hj->BH->Pos->Bool):Bool:=if h:x.ctorIdx=8 then EJ x h k else AG
def c44{k:AS->List Hj->BH->Pos->Bool}(h:xLC x k=AC)(H:∀a g s p,k a g s p=AC->C (.ListComp a g s p)):C x:=
 dE h λe=>EJ (motive_1:=λx=>∀e,EJ x e k=AC->C x) x e (λa g s p _ h=>H a g s p h) e
noncomputable def xCm(x:AS)(k:AS->List Dn->List AS->Pos->Bool):Bool:=if h:x.ctorIdx=15 then EY x h k else AG
def c57{k:AS->List Dn->List AS->Pos->Bool}(h:xCm x k=AC)(H:∀a o b p,k a o b p=AC->C (.Compare a o b p)):C x:=
 dE h λe=>EY (motive_1:=λx=>∀e,EY x e k=AC->C x) x e (λa o b p _ h=>H a o b p h) e
noncomputable def xCa(x:AS)(k:AS->List AS->List Gy->Pos->Bool):Bool:=if h:x.ctorIdx=16 then Fh x h k else AG
def c43{k:AS->List AS->List Gy->Pos->Bool}(h:xCa x k=AC)(H:∀f a w p,k f a w p=AC->C (.Call f a w p)):C x:=
 dE h λe=>Fh (motive_1:=λx=>∀e,Fh x e k=AC->C x) x e (λf a w p _ h=>H f a w p h) e
noncomputable def xK(x:AS)(k:Const->Nat->Pos->Bool):Bool:=if h:x.ctorIdx=19 then EK x h k else AG
def xK_{k:Const->Nat->Pos->Bool}(h:xK x k=AC)(H:∀c n p,k c n p=AC->C (.Constant c n p)):C x:=
 dE h λe=>EK (motive_1:=λx=>∀e,EK x e k=AC->C x) x e (λc n p _ h=>H c n p h) e
noncomputable def xA(x:AS)(k:AS->Str->Pos->Bool):Bool:=if h:x.ctorIdx=20 then Dx x h k else AG
def xA_{k:AS->Str->Pos->Bool}(h:xA x k=AC)(H:∀a f p,k a f p=AC->C (.Attribute a f p)):C x:=
 dE h λe=>Dx (motive_1:=λx=>∀e,Dx x e k=AC->C x) x e (λa f p _ h=>H a f p h) e
noncomputable def xS(x:AS)(k:AS->AS->Pos->Bool):Bool:=if h:x.ctorIdx=21 then Dy x h k else AG
def xS_{k:AS->AS->Pos->Bool}(h:xS x k=AC)(H:∀a b p,k a b p=AC->C (.Subscript a b p)):C x:=
 dE h λe=>Dy (motive_1:=λx=>∀e,Dy x e k=AC->C x) x e (λa b p _ h=>H a b p h) e
noncomputable def xN(x:AS)(k:Str->Pos->Bool):Bool:=if h:x.ctorIdx=23 then Fi x h k else AG
def xN_{k:Str->Pos->Bool}(h:xN x k=AC)(H:∀y p,k y p=AC->C (.Name y p)):C x:=
 dE h λe=>Fi (motive_1:=λx=>∀e,Fi x e k=AC->C x) x e (λy p _ h=>H y p h) e
noncomputable def xL(x:AS)(k:List AS->Pos->Bool):Bool:=if h:x.ctorIdx=24 then Fj x h k else AG
def xL_{k:List AS->Pos->Bool}(h:xL x k=AC)(H:∀l p,k l p=AC->C (.List l p)):C x:=
 dE h λe=>Fj (motive_1:=λx=>∀e,Fj x e k=AC->C x) x e (λl p _ h=>H l p h) e
noncomputable def xT(x:AS)(k:List AS->Nat->Pos->Bool):Bool:=if h:x.ctorIdx=25 then FJ x h k else AG
def xT_{k:List AS->Nat->Pos->Bool}(h:xT x k=AC)(H:∀l n p,k l n p=AC->C (.Tuple l n p)):C x:=
 dE h λe=>FJ (motive_1:=λx=>∀e,FJ x e k=AC->C x) x e (λl n p _ h=>H l n p h) e
noncomputable def xSl(x:AS)(k:Option AS->Option AS->Option AS->Pos->Bool):Bool:=if h:x.ctorIdx=26 then FK x h k else AG
def bs1{k:Option AS->Option AS->Option AS->Pos->Bool}(h:xSl x k=AC)(H:∀l u s p,k l u s p=AC->C (.Slice l u s p)):C x:=
 dE h λe=>FK (motive_1:=λx=>∀e,FK x e k=AC->C x) x e (λl u s p _ h=>H l u s p h) e
noncomputable def l1{α:Type}(l:List α)(k:α->Bool):Bool:=Db (motive:=λ_=>Bool) l AG λp r=>r.isEmpty&&k p
def l1_{α:Type}{l:List α}{k:α->Bool}{C:List α->Prop}(h:l1 l k=AC)(H:∀p,k p=AC->C [p]):C l:=
 match l,h with
 |[p],h=>H p h
noncomputable def l2{α:Type}(l:List α)(k:α->α->Bool):Bool:=Db (motive:=λ_=>Bool) l AG λp r=>l1 r (k p)
def l2_{α:Type}{l:List α}{k:α->α->Bool}{C:List α->Prop}(h:l2 l k=AC)(H:∀p q,k p q=AC->C [p,q]):C l:=
 match l,h with
 |p::r,h=>l1_ (C:=λr=>C (p::r)) h λq h=>H p q h
noncomputable def lb(l:List AS)(k:AS->AS->Bool)(m:AS->List AS->Bool):Bool:=Db (motive:=λ_=>Bool) l AG λp r=>if r.length=1 then l1 r (k p)else AB (2<=r.length)&&m p r
noncomputable def xKc(x:AS)(c:Const):Bool:=xK x λd _ _=>d==c
def P1{c:Const}(h:xKc x c=AC)(H:∀n p,C (.Constant c n p)):C x:=
 xK_ h λd n p e=>(beq_iff_eq.1 e)▸H n p
noncomputable def P2(x:AS)(g:Str):Bool:=xN x λy _=>y==g
def S8(h:P2 x g=AC)(H:∀p,C (.Name g p)):C x:=
 xN_ h λy p e=>(beq_iff_eq.1 e)▸H p
noncomputable def xCl(x:AS)(k:AS->List AS->Pos->Bool):Bool:=xCa x λf a w p=>w.isEmpty&&k f a p
def ad1{k:AS->List AS->Pos->Bool}(h:xCl x k=AC)(H:∀f a p,k f a p=AC->C (.Call f a [] p)):C x:=
 c43 h λf a w p h=>by
  cases w with
  |nil=>exact H f a p h
  |cons=>exact(AH h).elim
noncomputable def R8(x:AS):Bool:=!(xCl x λf a _=>a.isEmpty&&xN f λ_ _=>AC)
noncomputable def xG(g:Str)(sc:BH)(x:AS)(k:List AS->Bool):Bool:=xCl x λf a _=>P2 f g&&(glb sc g&&k a)
def xG_{k:List AS->Bool}{C:AS->Prop}(h:xG g sc x k=AC)(H:∀q a p,glb sc g=AC->k a=AC->C (.Call (.Name g q) a [] p)):C x:=
 ad1 h λf a p h=>S8 (C:=λf=>C (.Call f a [] p)) (an h).1 λq=>H q a p (an (an h).2).1 (an (an h).2).2
noncomputable def xC1(g:Str)(sc:BH)(x:AS)(k:AS->Bool):Bool:=xG g sc x λa=>l1 a k
def C8{k:AS->Bool}{C:AS->Prop}(h:xC1 g sc x k=AC)(H:∀q a p,glb sc g=AC->k a=AC->C (.Call (.Name g q) [a] [] p)):C x:=
 xG_ h λq a p h1 h=>l1_ (C:=λa=>C (.Call (.Name g q) a [] p)) h λa=>H q a p h1
noncomputable def xC2(g:Str)(sc:BH)(x:AS)(k:AS->AS->Bool):Bool:=xG g sc x λa=>l2 a k
def ar1{k:AS->AS->Bool}{C:AS->Prop}(h:xC2 g sc x k=AC)(H:∀q a b p,glb sc g=AC->k a b=AC->C (.Call (.Name g q) [a,b] [] p)):C x:=
 xG_ h λq a p h1 h=>l2_ (C:=λa=>C (.Call (.Name g q) a [] p)) h λa b=>H q a b p h1
noncomputable def xM(m:Str)(x:AS)(k:AS->List AS->Bool):Bool:=xCl x λf a cp=>xA f λo n ap=>(n==m)&&((ap.endLine==cp.line)&&k o a)
def xM_{k:AS->List AS->Bool}{C:AS->Prop}(h:xM m x k=AC)(H:∀o ap a cp,(ap.endLine==cp.line)=AC->k o a=AC->C (.Call (.Attribute o m ap) a [] cp)):C x:=
 ad1 h λf a cp h=>xA_ (C:=λf=>C (.Call f a [] cp)) h λo n ap h=>(beq_iff_eq.1 (an h).1)▸H o ap a cp (an (an h).2).1 (an (an h).2).2
noncomputable def xM0(m:Str)(x:AS)(k:AS->Bool):Bool:=xM m x λo a=>a.isEmpty&&(R8 o&&k o)
def bt3{k:AS->Bool}(h:xM0 m x k=AC)(H:∀o ap cp,(ap.endLine==cp.line)=AC->R8 o=AC->k o=AC->C (.Call (.Attribute o m ap) [] [] cp)):C x:=
 xM_ h λo ap a cp e h=>by
  cases a with
  |nil=>exact H o ap cp e (an (an h).2).1 (an (an h).2).2
  |cons=>exact(AH h).elim
noncomputable def xM1(m:Str)(x:AS)(k j:AS->Bool):Bool:=xM m x λo a=>l1 a λp=>R8 o&&(k o&&j p)
def T7{k j:AS->Bool}{C:AS->Prop}(h:xM1 m x k j=AC)(H:∀o ap p cp,(ap.endLine==cp.line)=AC->R8 o=AC->k o=AC->j p=AC->C (.Call (.Attribute o m ap) [p] [] cp)):C x:=
 xM_ h λo ap a cp e h=>l1_ (C:=λa=>C (.Call (.Attribute o m ap) a [] cp)) h λp h=>H o ap p cp e (an h).1 (an (an h).2).1 (an (an h).2).2
noncomputable def xCo(x:AS)(k:Dn->AS->AS->Bool):Bool:=xCm x λa o b _=>l1 o λo=>l1 b λb=>k o a b
def ad2{k:Dn->AS->AS->Bool}{C:AS->Prop}(h:xCo x k=AC)(H:∀o a b p,k o a b=AC->C (.Compare a [o] [b] p)):C x:=
 c57 h λa o b p h=>l1_ (C:=λo=>C (.Compare a o b p)) h λo h=>l1_ (C:=λb=>C (.Compare a [o] b p)) h λb=>H o a b p
noncomputable def mTg(ow:Bool)(t:Tg)(sc:BH)(N:List Str)(x:AS):Bool:=match t with
 |.n i=>xN x λy _=>(N[i]?==AA y)&&K9 sc y&&((ow&&!(N.contains (v3 y)))||lcl sc y)
 |.tup is=>xT x λes _ _=>(is.length==es.length)&&((is.zip es).all λp=>xN p.2 λy _=>(N[p.1]?==AA y)&&K9 sc y&&((ow&&!(N.contains (v3 y)))||lcl sc y))
noncomputable def mKs:List Str->List (Option AS)->Bool
 |[],l=>l.isEmpty
 |k::ks,l=>Db (motive:=λ_=>Bool) l AG λx r=>GC (motive:=λ_=>Bool) x AG λx=>xKc x (.str k)&&mKs ks r
noncomputable def oE(lo:E)(m:AS->Bool)(l:Option AS):Bool:=GC (motive:=λ_=>Bool) l lo.isNon λl=>!lo.isNon&&m l
noncomputable def cE(c:E)(m:AS->Bool)(l:List AS):Bool:=if l.isEmpty then c.isNon else l1 l λx=>!c.isNon&&(B3 x&&m x)
noncomputable def br2(ks:List Str)(vs:Es):Bool:=(ks.length==vs.len)&&(decide ks.Nodup&&(AB (ks.length<=15)&&!ks.isEmpty))
mutual
noncomputable def mE:E->BH->List Str->AS->Bool
 |.non,_,_,x=>xKc x .none
 |.bl b,_,_,x=>xKc x (.bool b)
 |.int i,_,_,x=>xKc x (.int i)
 |.str y,_,_,x=>xKc x (.str y)
 |.v i,sc,N,x=>xN x λy _=>(N[i]?==AA y)&&(ad0 sc y&&okN y)
 |.tup es,sc,N,x=>xT x λxs _ _=>mEs es sc N xs&&AB (es.len<=1000)
 |.lst es,sc,N,x=>xL x λxs _=>mEs es sc N xs&&AB (es.len<=1000)
 |.bin o a b,sc,N,x=>xBi x λp q r _=>(q==o)&&(mE a sc N p&&mE b sc N r)
 |.neg a,sc,N,x=>xU x λo p _=>(o==.USub)&&mE a sc N p
 |.cmp o a b,sc,N,x=>xCo x λq p r=>(q==o)&&(mE a sc N p&&mE b sc N r)
 |.isN a,sc,N,x=>xCo x λq p r=>(q==.Is)&&(xKc r .none&&mE a sc N p)
 |.notN a,sc,N,x=>xCo x λq p r=>(q==.IsNot)&&(xKc r .none&&mE a sc N p)
 |.and a b,sc,N,x=>xBo x λo l ps=>(o==.And)&&lb l (λp q=>mE a sc N p&&mE b sc N q&&B3 p&&B3 q) (λp r=>mE a sc N p&&mE b sc N (.BoolOp .And r ps)&&B3 p)
 |.or a b,sc,N,x=>xBo x λo l ps=>(o==.Or)&&lb l (λp q=>mE a sc N p&&mE b sc N q&&B3 p&&B3 q) (λp r=>mE a sc N p&&mE b sc N (.BoolOp .Or r ps)&&B3 p)
 |.not a,sc,N,x=>xU x λo p _=>(o==.Not)&&(mE a sc N p&&B3 p)
 |.ite c a b,sc,N,x=>xIf x λp q r _=>(mE c sc N p&&B3 p)&&(mE a sc N q&&mE b sc N r)
 |.ix a b,sc,N,x=>xS x λp q _=>mE a sc N p&&mE b sc N q
 |.sl a lo hi,sc,N,x=>xS x λp s _=>mE a sc N p&&xSl s λl h st _=>st.isNone&&(oE lo (mE lo sc N) l&&oE hi (mE hi sc N) h)
 |.slw a lo hi,sc,N,x=>xS x λp s _=>mE a sc N p&&xSl s λl h st _=>st.isNone&&(oE lo (mE lo sc N) l&&oE hi (mE hi sc N) h)
 |.dsel ks vs k,sc,N,x=>xS x λd q _=>mE k sc N q&&xD d λkeys xs _=>mKs ks keys&&(mEs vs sc N xs&&br2 ks vs)
 |.gget g k d,sc,N,x=>xM "get" x λo a=>P2 o g&&(glb sc g&&(okN g&&l2 a λp q=>mE k sc N p&&mE d sc N q))
 |.gsel g k,sc,N,x=>xS x λn q _=>P2 n g&&(glb sc g&&(okN g&&mE k sc N q))
 |.len a,sc,N,x=>xC1 "len" sc x (mE a sc N)
 |.abs a,sc,N,x=>xC1 "abs" sc x (mE a sc N)
 |.toInt a,sc,N,x=>xC1 "int" sc x (mE a sc N)
 |.sum a,sc,N,x=>xC1 "sum" sc x (mE a sc N)
 |.list a,sc,N,x=>xC1 "list" sc x (mE a sc N)
 |.tuple a,sc,N,x=>xC1 "tuple" sc x (mE a sc N)
 |.max a b,sc,N,x=>xC2 "max" sc x λp q=>mE a sc N p&&mE b sc N q
 |.call f es,sc,N,x=>xG f sc x λl=>okN f&&(!isM f&&(!l.isEmpty&&mEs es sc N l))
 |.gf f,sc,_,x=>P2 x f&&(glb sc f&&(okN f&&!isM f))
 |.callx c es,sc,N,x=>xCl x λf l _=>xS f (λp q s=>mE c sc N (.Subscript p q s))&&(!l.isEmpty&&mEs es sc N l)
 |.callv i es,sc,N,x=>xCl x λf l _=>xN f (λy _=>(N[i]?==AA y)&&(ad0 sc y&&okN y))&&(!l.isEmpty&&mEs es sc N l)
 |.isT t a,sc,N,x=>xC2 "isinstance" sc x λp g=>P2 g (Ab t)&&(glb sc (Ab t)&&(L8.contains t&&mE a sc N p))
 |.fld a f,sc,N,x=>xA x λo g _=>(g==f)&&(R8 o&&mE a sc N o)
 |.methd a m es,sc,N,x=>xM m x λo l=>xN o (λy p=>mE a sc N (.Name y p))&&(!l.isEmpty&&(mEs es sc N l&&AB (l.length<29)))
 |.meth a m es,sc,N,x=>xM m x λo l=>xN o (λy p=>mE a sc N (.Name y p))&&(mEs es sc N l&&AB (l.length<29))
 |.make c es,sc,N,x=>xG c sc x λl=>okN c&&mEs es sc N l
 |.app a b,sc,N,x=>xM1 "append" x (mE a sc N) (mE b sc N)
 |.ext a b,sc,N,x=>xM1 "extend" x (mE a sc N) (mE b sc N)
 |.popAt a b,sc,N,x=>xM1 "pop" x (mE a sc N) (mE b sc N)
 |.pop a,sc,N,x=>xM0 "pop" x (mE a sc N)
 |.denu a,sc,N,x=>xC1 "dict" sc x λp=>xC1 "enumerate" sc p (mE a sc N)
 |.igt a b,sc,N,x=>xM1 "get" x (mE a sc N) (mE b sc N)
 |.dnt,sc,N,x=>xD x λl r _=>l.isEmpty&&r.isEmpty
 |.dgt a b,sc,N,x=>xM1 "get" x (mE a sc N) (mE b sc N)
 |.din ne a b,sc,N,x=>xCo x λq p r=>(q==(if ne then HL else .In))&&(mE a sc N p&&mE b sc N r)
 |.lrev a,sc,N,x=>xM0 "reverse" x (mE a sc N)
 |.gc g,sc,_,x=>P2 x g&&(glb sc g&&okN g)
 |.index a b,sc,N,x=>xM1 "index" x (mE a sc N) (mE b sc N)
 |.comp Nc fr k t it c e,sc,N,x=>xLC x λel g scope _=>l1 g λg=>(g.is_async==0)&&(V6 sc scope N Nc fr k&&(mIt it sc N g.target g.iter&&(mTg AG t (aq9 scope sc) Nc g.target&&(mE e (aq9 scope sc) Nc el&&cE c (mE c (aq9 scope sc) Nc) g.ifs))))
noncomputable def mEs:Es->BH->List Str->List AS->Bool
 |.nil,_,_,xs=>xs.isEmpty
 |.cons e r,sc,N,xs=>Db (motive:=λ_=>Bool) xs AG λx xs=>mE e sc N x&&mEs r sc N xs
noncomputable def mIt:It->BH->List Str->AS->AS->Bool
 |.seq e,sc,N,_,x=>mE e sc N x
 |.rng a,sc,N,_,x=>xC1 "range" sc x (mE a sc N)
 |.rng2 a b,sc,N,_,x=>xC2 "range" sc x λp q=>mE a sc N p&&mE b sc N q
 |.enum e,sc,N,tg,x=>xT tg (λ_ _ _=>AC)&&xC1 "enumerate" sc x (mE e sc N)
 |.revt e,sc,N,_,x=>xC1 "reversed" sc x (mE e sc N)
 |.rev e,sc,N,_,x=>xC1 "reversed" sc x (mE e sc N)
end
structure XOk(Z:Sg)(X:Cx):Prop where
 calm:X.calm=AC
 xe:X.xe=λ_ _=>False
 units:X.A.units+200<Bk
 nd:X.N.Nodup
 blt:∀b∈P9,X.mg b=AE
 fns:∀f,isM f=AG->Z.F f=AC->FOk X f (Z.Phi f)
 nom:∀f fa,Z.F f=AC->Aw X.K AN f=AA (AA (.ref fa))->isM f=AG
 cls:∀f c Ca,Aw X.K AN c=AA (AA (.ref Ca))->f∈Z.C c->Cls X.K Ca∧F7 X.K Ca f
 mth:∀m c Ca,Aw X.K AN c=AA (AA (.ref Ca))->Z.F (c7 c m)=AC->∃k f fd ps,Cls X.K Ca∧Meth X.K Ca m f∧FnOk X.prog X.w X.K X.mg X.base CX0 k f fd ps (y3 X.K (Z.Phi (c7 c m)))∧Room k X.A∧p8 X.K fd ps []
 mthd:∀m c Ca i,Aw X.K AN c=AA (AA (.ref Ca))->Z.F (c7 c m)=AC->A7 Z.C (c7 c m)=AA i->∃k f fd ps tk,Cls X.K Ca∧Meth X.K Ca m f∧FnOk X.prog X.w X.K X.mg X.base CX0 k f fd ps (y3 X.K (Z.Phi (c7 c m)))∧Room k X.A∧p8 X.K fd ps [.int i tk]
 mks:∀c,Z.MF (c7 c "__init__")=AC->∃Ca k f fd ps,Aw X.K AN c=AA (AA (.ref Ca))∧Mk X.K Ca f∧FnOk X.prog X.w X.K X.mg X.base CX0 k f fd ps (y3 X.K (Z.Mk (c7 c "__init__")))∧Room (k+1) X.A∧X.mg c=AA (.ref Ca)∧p8 X.K fd ps []
 tabs:∀g,Z.G g≠[]->GTab X.prog X.w X.K X.mg g (Z.G g)
 cst:∀g i,Z.Kc g=AA i->∃t,X.mg g=AA (.int i t)
 kt:Tbs.kt=(Z.C "!kt").isEmpty
 lam:X.N.contains r9=AC->LamOk X∧∀x,X.N.contains (v3 x)=AC->X.fn x=AG∧X.ow x=AC
 mtE:∀(e:E)(sc:BH)(N:List Str)(x:AS),mE e sc N x=AC->N.contains r9=AG->Tbs.mt (.cons (.ret e) .nil) sc N (.expr x)
 clo:∀np N b cs fa fd ps,CloF fd np N ps b->∃k,FnOk X.prog X.w X.K X.mg X.base CX0 k fa fd ps (X0 X.K fa fd np N cs (Z.PhiC np N b cs))∧Room k X.A
end Ek
namespace Ek
open PySem PySem.Spec PyProof.Rows L2
variable [Tbs]
variable{x:AS}{Z:Sg}{X:Cx}{f:Str}{scope:BH}{Nc:List Str}{fr:List Nat}
structure Snd(Z:Sg)(X:Cx)(e:E)(x:AS):Prop where
 v:PE X x (up X.K (wpE Z e))
 t:B3 x=AC->PT X x (upB X.K (wpT Z e))
 w:∀op vs p,x=.BoolOp op vs p->PW X x (upB X.K (wpT Z e))
 st:∀y p,x≠.Starred y p
 sl:∀l u s p,x≠.Slice l u s p
 se:∀l k p,x≠.Set l k p
def ap3(h:be3 x=AC):(∀y p,x≠.Starred y p)∧(∀l u s p,x≠.Slice l u s p)∧(∀l k p,x≠.Set l k p):=
 ⟨λ_ _ z=>(by rw[z]at h;cases h),λ_ _ _ _ z=>(by rw[z]at h;cases h),λ_ _ _ z=>(by rw[z]at h;cases h)⟩
def Snd.plain{e:E}(he:PE X x (up X.K (wpE Z e)))(hi:∀whole,HK x X.env whole=(do let v <-whole;Gr x.pos;holding [v] (truthy v)))(hu:be3 x=AC)(hb:∀op vs p,x≠.BoolOp op vs p):Snd Z X e x:=
 ⟨he,λ_=>c06 he hi,λop vs p z=>absurd z (hb op vs p),(ap3 hu).1,(ap3 hu).2.1,(ap3 hu).2.2⟩
noncomputable def cs0(x:AS):Bool:=[2,4,6,8,16,19,20,21,23,24,25].contains x.ctorIdx
def Snd.pl{e:E}(he:PE X x (up X.K (wpE Z e)))(h:cs0 x=AC):Snd Z X e x:=by
 cases x<;>first|exact(AH h).elim|exact Snd.plain he (λ_=>rfl) rfl (by intros;exact nofun)
def p9(h:glb X.env.scope f=AC):Gl X f:=by
 have:X.env.scope.names.lookup f=AA .globalImplicit:=by simpa[glb]using h
 exact this
def bb6{sc:BH}(h:ad0 sc f=AC):Vis sc f:=by
 unfold ad0 at h
 split at h
 ·exact .inl (by assumption)
 ·exact .inr (.inl (by assumption))
 ·exact .inr (.inr (by assumption))
 ·cases h
def Q7{sc:BH}(h:K9 sc f=AC):Loc sc f:=by
 unfold K9 at h
 split at h
 ·exact .inl (by assumption)
 ·exact .inr (by assumption)
 ·cases h
def D8{x:Str}(h:okN x=AC):(x==("__debug__":Str))=AG∧(x==("__classdict__":Str))=AG:=by
 simpa[okN]using h
def J8{o:AS}(h:R8 o=AC):∀i p p',o≠.Call (.Name i p) [] [] p':=λ_ _ _ z=>by rw[z]at h;cases h
def XOk.blt'(h:XOk Z X)(b:Str)(hb:P9.contains b=AC:=by decide):X.mg b=AE:=h.blt b (by simpa using hb)
def XOk.pass(h:XOk Z X):GX (model X.prog X.w) X.A X.env X.xe:=by rw[h.xe];exact PassesOwn.never
def ao0{ow:Bool}{t:Tg}(hc:X.calm=AC)(hN:X.N.Nodup)(how:ow=AC->∀y,Loc X.env.scope y->X.N.contains (v3 y)=AG->X.fn y=AC∨X.env.scope.names.lookup y=AA .local)(h:mTg ow t X.env.scope X.N x=AC):PG X x (upG X.K t):=by
 have one:∀(i:Nat)(y:Str)(p:Pos),((X.N[i]?==AA y)&&K9 X.env.scope y&&((ow&&!(X.N.contains (v3 y)))||lcl X.env.scope y))=AC->X.N[i]?=AA y∧Loc X.env.scope y∧(X.fn y=AC∨X.env.scope.names.lookup y=AA .local):=λi y p h=>by
  simp only[At,beq_iff_eq,Bool.or_eq_true,GS]at h;refine⟨h.1.1,Q7 h.1.2,?_⟩
  rcases h.2 with z|z
  ·exact how z.1 y (Q7 h.1.2) z.2
  ·exact .inr (by simpa[lcl]using z)
 cases t with
 |n i=>
  refine xN_ (C:=λx=>PG X x (upG X.K (.n i))) h λy p h=>?_;obtain⟨a,b,c⟩:=one _ _ p h;exact cm3 hN a b c
 |tup is=>
  refine xT_ (C:=λx=>PG X x (upG X.K (.tup is))) h λes k p h=>?_;obtain⟨hl,ha⟩:=an h;have all:∀(is:List Nat)(es:List AS),is.length=es.length->((is.zip es).all λp=>xN p.2 λy _=>(X.N[p.1]?==AA y)&&K9 X.env.scope y&&((ow&&!(X.N.contains (v3 y)))||lcl X.env.scope y))=AC->PGs X es (X5 is)∧(Bv es X.env).length=is.length∧(Bv es X.env).findIdx? (·.1)=AE:=by
   intro is
   induction is with
   |nil=>
    intro es hl _;cases es with
    |nil=>exact⟨cj6,rfl,rfl⟩
    |cons a b=>cases hl
   |cons i is ih=>
    intro es hl h;cases es with
    |nil=>cases hl
    |cons e es=>
     obtain⟨h1,h2⟩:=an h;obtain⟨g1,g2,g3⟩:=ih es (GV hl) h2;refine xN_ (C:=λe=>PGs X (e::es) (X5 (i::is))∧(Bv (e::es) X.env).length=(i::is).length∧(Bv (e::es) X.env).findIdx? (·.1)=AE) h1 λy py h1=>?_;obtain⟨a,b,c⟩:=one i y py h1;refine⟨cb7 (a71 hN a b c) g1 rfl,congrArg (·+1) g2,?_⟩;show List.findIdx? _ ((AG,assign (.Name y py) X.env)::Bv es X.env)=AE;rw[List.findIdx?_cons];simp only[BO,if_false];rw[g3];rfl
  obtain⟨g1,g2,g3⟩:=all is es (beq_iff_eq.1 hl) ha;exact cm5 hc g1 g2 g3
def av8{k:Nat}(h:V6 X.env.scope scope X.N Nc fr k=AC):CompScope X scope Nc fr k:=by
 unfold V6 at h;simp only[At,beq_iff_eq,decide_eq_true_eq,Dh]at h;obtain⟨⟨⟨⟨⟨⟨⟨⟨h1,h2⟩,h3⟩,h4⟩,h5⟩,h6⟩,_⟩,h7⟩,h8⟩:=h;refine⟨h1,λy hy=>?_,λy hy hl=>?_,λy hy hf=>?_,λy hy hf hm=>?_,h6,h7,λi x hx hi=>?_⟩
 ·simpa using h2 y hy
 ·have:=h3 y hy;rw[hl]at this;simpa using this
 ·have:=h4 y hy;rw[hf]at this;simpa using this
 ·have:=h5 y hy;rw[hf]at this;have:(scope.names.any λz=>z.1==y.1&&z.2==.local)=AG:=by simpa using this
  rw[GK]at this;exact absurd (by simp) (this _ hm)
 ·have:=h8 i (by simpa using hi);rw[hx]at this;cases q:fr[i]? with
  |none=>rw[q]at this;cases this
  |some j=>
   rw[q]at this;simp only[At,beq_iff_eq,Gk]at this;obtain⟨a,⟨n,kd⟩,hm,e1,e2⟩:=this;simp only at e1 e2;subst e1 e2;exact⟨j,rfl,a,hm⟩
def X9{k:Nat}(h:V6 X.env.scope scope X.N Nc fr k=AC):Nc.contains r9=AG:=by
 unfold V6 at h;simp only[At,GS]at h;exact h.1.1.2
theorem XOk.comp{k:Nat}(h:XOk Z X)(nl:Nc.contains r9=AG)(S:CompScope X scope Nc fr k)(C:AI)(fp:List AI)(pins:List (AI×Obj))(s:AJ)(H:Hp):XOk Z (X.comp scope Nc C fp pins s H) where
 calm:=h.calm
 xe:=rfl
 units:=h.units
 nd:=S.nd
 blt:=h.blt
 fns:=λf hm hf=>let⟨k,a,fd,ps,x⟩:=(h.fns f hm hf).ex;⟨k,a,fd,ps,x⟩
 nom:=λf fa a b=>h.nom f fa a b
 cls:=λf c Ca a b=>h.cls f c Ca a b
 mth:=λm c Ca a b=>h.mth m c Ca a b
 mthd:=λm c Ca i a b d=>h.mthd m c Ca i a b d
 mks:=λc a=>h.mks c a
 tabs:=λg hg=>⟨(h.tabs g hg).ex⟩
 lam:=λz=>by
  have z':Nc.contains r9=AC:=z;rw[nl]at z';cases z'
 cst:=h.cst
 kt:=h.kt
 mtE:=h.mtE
 clo:=λnp N b cs fa fd ps cf=>h.clo np N b cs fa fd ps cf
theorem fmc{α β:Type}{f g:α->Option β}:∀{l:List α},(∀n∈l,f n=g n)->l.filterMap f=l.filterMap g
 |[],_=>rfl
 |a::l,h=>by rw[DG,DG,h a (.head _),fmc λn hn=>h n (.tail _ hn)]
theorem ay3:∀(ns:List Str)(us:List AF),ns.Nodup->us.length=ns.length->(ns.filterMap λn=>((ns.zip us).lookup n).map (n,·))=ns.zip us∧∀n∈ns,((ns.zip us).lookup n).isNone=AG
 |[],us,_,_=>⟨rfl,nofun⟩
 |a::ns,u::us,hd,hl=>by
  obtain⟨h1,h2⟩:=ay3 ns us (BM.1 hd).2 (GV hl);refine⟨?_,λn hn=>?_⟩
  ·rw[ET,DG,De,beq_self_eq_true];refine congrArg ((a,u)::·) (Jc (fmc λn hn=>?_) h1);rw[De,beq_false_of_ne λe:n=a=>(BM.1 hd).1 (e▸hn)]
  ·rw[ET,De];cases e:n==a with
   |true=>rfl
   |false=>exact h2 n ((AM.1 hn).resolve_left λz=>by rw[z,beq_self_eq_true]at e;cases e)
def fz{α β γ:Type}{z:List α}{i:β}{f:α->β->Sem (ForInStep β)}{g:β->Sem γ}(hz:z=[]):(forIn z i f>>=g)=g i:=by subst hz;rfl
def cx0(name qual:Str)(l:List Arg)(fb:DM)(scope:BH)(cl:List (Str×AI))(doc pm cv ct:AF)(us:List AF)(h:us.length=(l.map Dz).length)(hd:(l.map Dz).Nodup):BX (G2 name qual ⟨[],l,AE,[],[],AE,[]⟩ fb scope cl doc pm cv ct) ⟨us,[]⟩=pure ((l.map Dz).zip us):=by
 obtain⟨z1,z2⟩:=ay3 (l.map Dz) us hd h;have h1:¬(AB (us.length>(l.map Dz).length)&&AC)=AC:=by rw[h];simp
 have h3:(Kr (0-(l.map Dz).length) ([]:List AF))=[]:=List.drop_nil;have h2:¬(!(((l.map Dz).take ((l.map Dz).length-(Kr (0-(l.map Dz).length) ([]:List AF)).length)).filter (λn=>(((l.map Dz).zip us).lookup n).isNone)).isEmpty)=AC:=by
  rw[h3,BQ,Jw,Ih,HE.2 λn hn=>by rw[z2 n hn];exact AH];exact AH
 unfold BX;refine(if_neg h1).trans ((if_neg h2).trans ((fz ?_).trans ?_))
 ·exact(congrArg _ h3).trans List.zip_nil_right
 ·exact congrArg (pure:List (Str×AF)->Sem _) ((congrArg _ (BP _)).trans z1)
theorem bs9(env:Env):∀l:List Arg,(l.all λa=>a.annotation.isNone)=AC->annotationsOf (l++[]++[]++[]++[]) env=[]
 |[],_=>rfl
 |⟨_,AE,_⟩::l,h=>bs9 env l h
def by7{p:Cr}{ps:List Str}(h:Y3 p=AA ps):p.defaults=[]∧p.kw_defaults=[]∧(∀env,defaultsOf p env=([],[]))∧(∀env,annTrees p AE env=[]) ∧
  ∀(name qual:Str)(fb:DM)(scope:BH)(cl:List (Str×AI))(doc pm cv ct:AF)(us:List AF),us.length=ps.length->BX (G2 name qual p fb scope cl doc pm cv ct) ⟨us,[]⟩=pure (ps.zip us):=by
 obtain⟨po,l,va,ko,kd,ka,df⟩:=p;unfold Y3 at h
 split at h
 ·rename_i hc;cases h;obtain⟨⟨⟨⟨⟨⟨⟨⟨⟨h1,h2⟩,h3⟩,h4⟩,h5⟩,h6⟩,h7⟩,h8⟩,_⟩,_⟩:=by simpa only[At,List.isEmpty_iff,Option.isNone_iff_eq_none,decide_eq_true_eq]using hc
  subst h1 h2 h3 h4 h5 h6;exact⟨rfl,rfl,λ_=>rfl,λenv=>(BP _).trans (bs9 env l h7),λ_ _ _ _ _ _ _ _ _ us hl=>cx0 _ _ l _ _ _ _ _ _ _ us hl h8⟩
 ·cases h
def ci6{params:Cr}{fb:DM}{np:Nat}{Nl ps:List Str}{cp:List Nat}{b:Ss}(h:ao2 X.env.scope X.N scope Nl ps np cp=AC)(hc:∀x,X.N.contains (v3 x)=AC->X.fn x=AG∧X.ow x=AC)(mt:Tbs.mt b scope Nl fb)
  (bind:∀(name qual:Str)(cl:List (Str×AI))(doc pm cv ct:AF)(us:List AF),us.length=ps.length->BX (G2 name qual params fb scope cl doc pm cv ct) ⟨us,[]⟩=pure (ps.zip us)):NestOk X params fb scope np Nl ps cp b:=by
 unfold ao2 at h;simp only[At,beq_iff_eq,GS,decide_eq_true_eq,Dh]at h;obtain⟨⟨⟨⟨⟨⟨⟨⟨⟨h1,h2⟩,h3⟩,h4⟩,h5⟩,h6⟩,h7⟩,h8⟩,h9⟩,h10⟩:=h;have key:∀x,(x,As)∈scope.names->scope.names.lookup x=AA .free∧X.env.scope.names.lookup x=AA .cell∧X.N.contains (v3 x)=AC∧∃i:Nat,∃j:Nat,cp[i]?=AA j∧X.N[j]?=AA x:=λx hx=>by
  have:=h9 _ hx;simp only[beq_self_eq_true,FA,FC,At,beq_iff_eq,Gk]at this;obtain⟨⟨⟨a,b⟩,c⟩,i,_,d⟩:=this;refine⟨a,b,c,i,?_⟩
  split at d
  ·rename_i j hj;exact⟨j,hj,by simpa using d⟩
  ·cases d
 refine⟨⟨h2,h3,h4,h5,h6,h7,λy hy=>by simpa using h8 y hy,λy hy hk=>?_⟩,h1,mt,bind,λi j hj=>?_,λx hx=>?_⟩
 ·obtain⟨y,k⟩:=y;simp only at hk;subst hk;exact(key y hy).1
 ·have hi:=(AR.mp hj).1;have:=h10 i (by simpa using hi);rw[hj]at this;simp only at this
  split at this
  ·rename_i x hx;simp only[At,beq_iff_eq,Gk]at this;obtain⟨a,⟨y,k⟩,hm,e1,e2⟩:=this;simp only at e1 e2;subst e1 e2;exact⟨_,hx,a,hm⟩
  ·cases this
 ·obtain⟨a,b,c,i,j,d1,d2⟩:=key x hx;exact⟨⟨i,j,d1,d2⟩,b,hc x c⟩
end Ek
namespace Ek
open PySem PySem.Spec PyProof.Rows L2
variable [Tbs]
variable{X:Cx}{Z:Sg}{e:E}{l:List AS}
structure SndA(Z:Sg)(X:Cx)(es:Es)(xs:List AS):Prop where
 a:PA X xs (upA X.K es.len (o8 Z es))
 pl:∀pos:Pos,(Bm pos (Ak xs X.env)).any (·.1)=AG
def bc4{o:Kq}{q:AS}{pos:Pos}{t:DT}(h:PT X q (upB X.K (tst t))):PW X (.BoolOp o [q] pos) (upB X.K (tst t)):=by
 cases o with
 |And=>exact cd0 h
 |Or=>exact cr1 h
def b79:∀(e:E)(sc:BH)(N:List Str)(l:List AS)(k:Nat)(p:Pos),mE e sc N (.Set l k p)=AG:=by
 intro e sc N l k p;cases e<;>rfl
def cg3{t:String}(h:t∈L8):BA (Ab t)=AA (.type t)∧Ab t≠"__name__"∧(Ab t==("__debug__":Str))=AG∧P9.contains (Ab t)=AC:=by
 simp only[L8,AM,Ae,or_false]at h
 rcases h with rfl|rfl|rfl|rfl|rfl<;>exact⟨by decide+kernel,by decide,by decide,by decide⟩
def ao1{env:Env}{it:It}{sc:BH}{N:List Str}{tg x:AS}(h:mIt it sc N tg x=AC):∀v,DH x env v=pure v:=by
 have hx:∀l k p,x≠.Set l k p:=λl k p z=>by
  subst z;cases it with
  |seq e=>exact(AH ((b79 e sc N l k p).symm.trans h)).elim
  |enum e=>exact(AH (an h).2).elim
  |_=>exact(AH h).elim
 intro v;cases x<;>first|rfl|exact absurd rfl (hx _ _ _)
def aq5{x:AS}{P:Prop}(h:¬P)(w:∀env st Q,wpE Z e env st Q->P):PE X x (up X.K (wpE Z e)):=λ_ _ _ _ _ _⟨env,st,_,_,_,ht,_⟩=>absurd (w env st _ ht) h
def ac5{lo:E}{l:Option AS}(h:oE lo (mE lo X.env.scope X.N) l=AC)(H:∀x,mE lo X.env.scope X.N x=AC->Snd Z X lo x):PO X l (upO X.K λenv st k=>(if lo.isNon=AC then λk=>k AE st else λ(k:Option Int->Sto->Prop)=>wpE Z lo env st λd st'=>∃i,d=.int i∧k (AA i) st') k):=by
 cases l with
 |none=>rw[show lo.isNon=AC from h];exact cj8
 |some l=>
  obtain⟨h1,h2⟩:=an h;rw[show lo.isNon=AG from nt h1];exact ci2 (H l h2).v
def bs5{c:E}(h:cE c (mE c X.env.scope X.N) l=AC)(H:∀x,mE c X.env.scope X.N x=AC->Snd Z X c x):PCs X l (upB X.K (if c.isNon=AC then λ_ st Q=>Q AC st else λenv st Q=>wpE Z c env st λd st'=>∃b,d=.bl b∧Q b st')):=by
 cases l with
 |nil=>
  rw[show c.isNon=AC from h];exact λpins' s' σ' H' Q' I'⟨env,st,Qd,hE,hS,ht,hq⟩=>ci9 pins' s' σ' H' Q' I' (hq AC H' st Ev.refl hS ht)
 |cons a l=>
  refine l1_ (C:=λl=>PCs X l _) (show l1 (a::l) (λx=>!c.isNon&&(B3 x&&mE c X.env.scope X.N x))=AC from h) λx h=>?_;obtain⟨h1,h2⟩:=an h;rw[show c.isNon=AG from nt h1];exact ch7 ((H x (an h2).2).t (an h2).1)
def c07{ks:List Str}{vs:Es}(h:br2 ks vs=AC):ks.length=vs.len∧ks.Nodup∧ks.length<=15∧∀{l:List (Option AS)},l.length=ks.length->l≠[]:=
 ⟨beq_iff_eq.1 (an h).1,of_decide_eq_true (an (an h).2).1,of_decide_eq_true (an (an (an h).2).2).1,λe z=>by
  subst z;rw[Ay e.symm]at h;exact AH (an (an (an h).2).2).2⟩
def mcF{cp:Pos}(hp:(Bm cp (Ak l X.env)).any (·.1)=AG)(h:l.length<29):EF (l.length+0) (Bm cp (Ak l X.env)) (Ee cp (DE [] X.env))=AC:=by
 unfold EF;rw[show(Bm cp (Ak l X.env)).all (λx=>!x.1)=AC from by
  rw[Dh];intro w hw;rw[GK]at hp;simpa using hp w hw]
 exact decide_eq_true (Dt h)
def Snd.cm{a:AS}{o:List Dn}{b:List AS}{p:Pos}(he:PE X (.Compare a o b p) (up X.K (wpE Z e)))(ht:PT X (.Compare a o b p) (upB X.K (wpT Z e))):Snd Z X e (.Compare a o b p):=⟨he,λ_=>ht,nofun,nofun,nofun,nofun⟩
def Snd.bo{o:Kq}{b:List AS}{p:Pos}(he:PE X (.BoolOp o b p) (up X.K (wpE Z e)))(hw:PW X (.BoolOp o b p) (upB X.K (wpT Z e))):Snd Z X e (.BoolOp o b p):=⟨he,λ_=>hw.pt,λ_ _ _ _=>hw,nofun,nofun,nofun⟩
def lb_{k:AS->AS->Bool}{m:AS->List AS->Bool}{C:List AS->Prop}(h:lb l k m=AC)(H:∀p q,k p q=AC->C [p,q])(J:∀p q r s,m p (q::r::s)=AC->C (p::q::r::s)):C l:=
 match l,h with
 |[p,q],h=>H p q h
 |p::q::r::s,h=>J p q r s h
def XOk.fnx(hX:XOk Z X)(f:Str)(fa:AI)(hF:Z.F f=AC)(hns:Aw X.K AN f=AA (AA (.ref fa))):∃k fd ps,FnOk X.prog X.w X.K X.mg X.base CX0 k fa fd ps (y3 X.K (Z.Phi f))∧Room k X.A∧Bh X.K (.ref fa)=AC∧p8 X.K fd ps []:=by
 obtain⟨k,a,fd,ps,F,hr,hm,hk,hb,hn⟩:=(hX.fns f (hX.nom f fa hF hns) hF).ex;rw[hn]at hns;cases hns;exact⟨k,fd,ps,F,hr,hk,hb⟩
mutual
theorem f6(Z:Sg):∀(e:E)(X:Cx)(x:AS),XOk Z X->mE e X.env.scope X.N x=AC->Snd Z X e x
 |.non,X,x,hX,h=>P1 h λn p=>Snd.pl (by exact ac3 cn0 λ_=>.non) rfl
 |.bl b,X,x,hX,h=>P1 h λn p=>Snd.pl (by exact ac3 cz7 λ_=>.bl _) rfl
 |.int i,X,x,hX,h=>P1 h λn p=>Snd.pl (by exact ac3 cu5 λ_=>.int _) rfl
 |.str y,X,x,hX,h=>P1 h λn p=>Snd.pl (by exact ac3 be0 λ_=>.str _) rfl
 |.v i,X,x,hX,h=>xN_ h λy p h=>Snd.pl (by exact co5 (beq_iff_eq.1 (an h).1) (bb6 (an (an h).2).1) (D8 (an (an h).2).2).1 (D8 (an (an h).2).2).2) rfl
 |.tup es,X,x,hX,h=>xT_ h λl n p h=>Snd.pl (by exact cu4 (C6 Z es X _ hX (an h).1).a (of_decide_eq_true (an h).2)) rfl
 |.lst es,X,x,hX,h=>xL_ h λl p h=>Snd.pl (by exact cr2 (C6 Z es X _ hX (an h).1).a (of_decide_eq_true (an h).2)) rfl
 |.bin o a b,X,x,hX,h=>c33 h λp q r ps h=>by
  cases beq_iff_eq.1 (an h).1;exact Snd.pl (by exact cr5 (f6 Z a X _ hX (an (an h).2).1).v (f6 Z b X _ hX (an (an h).2).2).v) rfl
 |.neg a,X,x,hX,h=>xU_ h λo p ps h=>by
  cases beq_iff_eq.1 (an h).1;exact Snd.plain (by exact co2 (f6 Z a X _ hX (an h).2).v) (λ_=>rfl) rfl (by intros;exact nofun)
 |.cmp o a b,X,x,hX,h=>ad2 h λq p r ps h=>by
  cases beq_iff_eq.1 (an h).1;have ia:=f6 Z a X _ hX (an (an h).2).1;have ib:=f6 Z b X _ hX (an (an h).2).2;exact Snd.cm (by exact cw0 hX.units ia.v ib.v ib.se) (by unfold wpT;exact cv8 hX.units ia.v ib.v ib.se)
 |.isN a,X,x,hX,h=>ad2 h λq p r ps h=>by
  cases beq_iff_eq.1 (an h).1;refine P1 (C:=λr=>Snd Z X (.isN a) (.Compare p [.Is] [r] ps)) (an (an h).2).1 λn pp=>?_;have ia:=f6 Z a X _ hX (an (an h).2).2;exact Snd.cm (by exact cm4 ia.v) (by unfold wpT;exact ct4 ia.v)
 |.notN a,X,x,hX,h=>ad2 h λq p r ps h=>by
  cases beq_iff_eq.1 (an h).1;refine P1 (C:=λr=>Snd Z X (.notN a) (.Compare p [.IsNot] [r] ps)) (an (an h).2).1 λn pp=>?_;have ia:=f6 Z a X _ hX (an (an h).2).2;exact Snd.cm (by exact cf3 ia.v) (by unfold wpT;exact cg9 ia.v)
 |.and a b,X,x,hX,h=>br4 h λo l ps h=>by
  cases beq_iff_eq.1 (an h).1;refine lb_ (C:=λl=>Snd Z X (.and a b) (.BoolOp .And l ps)) (an h).2 (λp q h=>?_) λp q r i5 h=>?_
  ·have ia:=f6 Z a X _ hX (an (an (an h).1).1).1;have ib:=f6 Z b X _ hX (an (an (an h).1).1).2;exact Snd.bo (by exact bf4 ia.v (ba8 ib.v)) (by unfold wpT;exact ba7 (ia.t (an (an h).1).2) (bc4 (ib.t (an h).2)))
  ·have ia:=f6 Z a X _ hX (an (an h).1).1;have ib:=f6 Z b X _ hX (an (an h).1).2;exact Snd.bo (by exact bf4 ia.v ib.v) (by unfold wpT;exact ba7 (ia.t (an h).2) (ib.w _ _ _ rfl))
 |.or a b,X,x,hX,h=>br4 h λo l ps h=>by
  cases beq_iff_eq.1 (an h).1;refine lb_ (C:=λl=>Snd Z X (.or a b) (.BoolOp .Or l ps)) (an h).2 (λp q h=>?_) λp q r i5 h=>?_
  ·have ia:=f6 Z a X _ hX (an (an (an h).1).1).1;have ib:=f6 Z b X _ hX (an (an (an h).1).1).2;exact Snd.bo (by exact bj7 ia.v (ba8 ib.v)) (by unfold wpT;exact bq4 (ia.t (an (an h).1).2) (bc4 (ib.t (an h).2)))
  ·have ia:=f6 Z a X _ hX (an (an h).1).1;have ib:=f6 Z b X _ hX (an (an h).1).2;exact Snd.bo (by exact bj7 ia.v ib.v) (by unfold wpT;exact bq4 (ia.t (an h).2) (ib.w _ _ _ rfl))
 |.not a,X,x,hX,h=>xU_ h λo p ps h=>by
  cases beq_iff_eq.1 (an h).1;have ia:=f6 Z a X _ hX (an (an h).2).1;exact⟨by exact cv3 ia.v,λ_=>(by unfold wpT;exact cq1 (ia.t (an (an h).2).2)),nofun,nofun,nofun,nofun⟩
 |.ite c a b,X,x,hX,h=>c28 h λp q r ps h=>
  ⟨by exact cs2 ((f6 Z c X _ hX (an (an h).1).1).t (an (an h).1).2) (f6 Z a X _ hX (an (an h).2).1).v (f6 Z b X _ hX (an (an h).2).2).v,nofun,nofun,nofun,nofun,nofun⟩
 |.ix a b,X,x,hX,h=>xS_ h λp q ps h=>
  have ib:=f6 Z b X _ hX (an h).2
  Snd.pl (by exact cy6 hX.units (f6 Z a X _ hX (an h).1).v ib.v ib.sl) rfl
 |.sl a lo hi,X,x,hX,h=>xS_ h λp s ps h=>bs1 (C:=λs=>Snd Z X (.sl a lo hi) (.Subscript p s ps)) (an h).2 λl u st p2 h2=>by
  cases st with
  |some _=>exact(AH h2).elim
  |none=>exact Snd.pl (by exact c23 (f6 Z a X _ hX (an h).1).v (ac5 (an (an h2).2).1 λx=>f6 Z lo X x hX) (ac5 (an (an h2).2).2 λx=>f6 Z hi X x hX)) rfl
 |.slw a lo hi,X,x,hX,h=>xS_ h λp s ps h=>bs1 (C:=λs=>Snd Z X (.slw a lo hi) (.Subscript p s ps)) (an h).2 λl u st p2 h2=>by
  cases st with
  |some _=>exact(AH h2).elim
  |none=>exact Snd.pl (by exact cs8 (f6 Z a X _ hX (an h).1).v (ac5 (an (an h2).2).1 λx=>f6 Z lo X x hX) (ac5 (an (an h2).2).2 λx=>f6 Z hi X x hX)) rfl
 |.dsel ks vs k,X,x,hX,h=>xS_ h λd q ps h=>xD_ (C:=λd=>Snd Z X (.dsel ks vs k) (.Subscript d q ps)) (an h).2 λkeys xs dp h2=>by
  have ik:=f6 Z k X _ hX (an h).1;obtain⟨h4,h5,h6,hne⟩:=c07 (an (an h2).2).2;obtain⟨d,e1,e2,e3⟩:=bj8 Z vs X ks _ _ dp hX (an h2).1 (an (an h2).2).1 h4;exact Snd.pl (by exact cc8 hX.units d e1 e2 (hne e3) e3 (by lia) h5 ik.v ik.sl) rfl
 |.gget g k d,X,x,hX,h=>xM_ h λo ap l cp hl h=>S8 (C:=λo=>Snd Z X (.gget g k d) (.Call (.Attribute o "get" ap) l [] cp)) (an h).1 λnp=>l2_ (C:=λl=>Snd Z X (.gget g k d) (.Call (.Attribute (.Name g np) "get" ap) l [] cp)) (an (an (an h).2).2).2 λp q h2=>
  have ik:=f6 Z k X _ hX (an h2).1;have id:=f6 Z d X _ hX (an h2).2
  Snd.pl (by exact cj3 (hX.tabs g) (p9 (an (an h).2).1) ik.v id.v ik.st id.st hl (D8 (an (an (an h).2).2).1).1) rfl
 |.gsel g k,X,x,hX,h=>xS_ h λn q ps h=>S8 (C:=λn=>Snd Z X (.gsel g k) (.Subscript n q ps)) (an h).1 λnp=>
  have ik:=f6 Z k X _ hX (an (an (an h).2).2).2
  Snd.pl (by exact cj0 (hX.tabs g) (p9 (an (an h).2).1) ik.v ik.sl (D8 (an (an (an h).2).2).1).1) rfl
 |.len a,X,x,hX,h=>C8 h λq p ps h1 h2=>
  have ia:=f6 Z a X _ hX h2
  Snd.pl (by exact cr4 (p9 h1) (hX.blt' _) ia.v ia.st) rfl
 |.abs a,X,x,hX,h=>C8 h λq p ps h1 h2=>
  have ia:=f6 Z a X _ hX h2
  Snd.pl (by exact ct1 (p9 h1) (hX.blt' _) ia.v ia.st) rfl
 |.toInt a,X,x,hX,h=>C8 h λq p ps h1 h2=>
  have ia:=f6 Z a X _ hX h2
  Snd.pl (by exact cb1 (p9 h1) (hX.blt' _) ia.v ia.st) rfl
 |.sum a,X,x,hX,h=>C8 h λq p ps h1 h2=>
  have ia:=f6 Z a X _ hX h2
  Snd.pl (by exact cn5 hX.calm (p9 h1) (hX.blt' _) ia.v ia.st) rfl
 |.list a,X,x,hX,h=>C8 h λq p ps h1 h2=>
  have ia:=f6 Z a X _ hX h2
  Snd.pl (by exact ck5 (p9 h1) (hX.blt' _) ia.v ia.st) rfl
 |.tuple a,X,x,hX,h=>C8 h λq p ps h1 h2=>
  have ia:=f6 Z a X _ hX h2
  Snd.pl (by exact b60 (p9 h1) (hX.blt' _) ia.v ia.st) rfl
 |.max a b,X,x,hX,h=>ar1 h λq p r ps h1 h2=>
  have ia:=f6 Z a X _ hX (an h2).1;have ib:=f6 Z b X _ hX (an h2).2
  Snd.pl (by exact cu7 hX.calm (p9 h1) (hX.blt' _) ia.v ib.v ia.st ib.st) rfl
 |.call f es,X,x,hX,h=>xG_ h λq l ps h1 h=>by
  cases l with
  |nil=>exact(AH (an (an (an h).2).2).1).elim
  |cons y ys=>cases es with
   |nil=>exact(AH (an (an (an h).2).2).2).elim
   |cons e0 er=>
    have i0:=f6 Z e0 X _ hX (an (an (an (an h).2).2).2).1;have ir:=C6 Z er X _ hX (an (an (an (an h).2).2).2).2;refine Snd.pl ?_ rfl
    by_cases hF:Z.F f=AC
    ·obtain⟨k,a,fd,ps,F,hr,hm,hk,hb,_⟩:=(hX.fns f (nt (an (an h).2).1) hF).ex;exact PE.imp (cd4 F hr (p9 h1) hm hk hb (Q0 i0.v ir.a i0.st) (D8 (an h).1).1 i0.st (ir.pl _)) λσ H Q⟨env,st,Qd,hE,hS,ht,hq⟩=>⟨env,st,Qd,hE,hS,ht.2,hq⟩
    ·exact aq5 hF λ_ _ _ ht=>ht.1
 |.gf f,X,x,hX,h=>S8 (C:=λx=>Snd Z X (.gf f) x) (an h).1 λp=>by
  refine Snd.pl ?_ rfl
  by_cases hF:Z.F f=AC
  ·obtain⟨k,a,fd,ps,F,hr,hm,hk,hb,hn⟩:=(hX.fns f (nt (an (an (an h).2).2).2) hF).ex;exact PE.imp (cy2 (p9 (an (an h).2).1) hm hn (D8 (an (an (an h).2).2).1).1) λσ H Q⟨env,st,Qd,hE,hS,ht,hq⟩=>⟨env,st,Qd,hE,hS,ht.2,hq⟩
  ·exact aq5 hF λ_ _ _ ht=>ht.1
 |.callx c es,X,x,hX,h=>ad1 h λf l ps h=>by
  refine xS_ (C:=λf=>Snd Z X (.callx c es) (.Call f l [] ps)) (an h).1 λp q sp h1=>?_;cases l with
  |nil=>exact(AH (an (an h).2).1).elim
  |cons y ys=>cases es with
   |nil=>exact(AH (an (an h).2).2).elim
   |cons e0 er=>
    have i0:=f6 Z e0 X _ hX (an (an (an h).2).2).1;have ir:=C6 Z er X _ hX (an (an (an h).2).2).2;refine Snd.pl ?_ rfl;exact b63 (F:=Z.F) (Ph:=Z.Phi) (f6 Z c X _ hX h1).v hX.fnx (Q0 i0.v ir.a i0.st) i0.st (ir.pl _)
 |.gc g,X,x,hX,h=>S8 (C:=λx=>Snd Z X (.gc g) x) (an h).1 λp=>by
  refine Snd.pl ?_ rfl;cases hk:Z.Kc g with
  |none=>exact λ_ _ _ _ _ _⟨env,st,Qd,hE,hS,⟨i,hi,_⟩,hq⟩=>nomatch hk.symm.trans hi
  |some i=>
   obtain⟨t,hm⟩:=hX.cst g i hk;exact PE.imp (a53 (v:=.int i) (p9 (an (an h).2).1) hm ⟨t,rfl⟩ (D8 (an (an h).2).2).1) λσ H Q q=>by
    obtain⟨env,st,Qd,hE,hS,⟨i',hi,ht⟩,hq⟩:=q;cases hk.symm.trans hi;exact hq.here (.int _) hS ht
 |.callv i es,X,x,hX,h=>ad1 h λf l ps h=>by
  refine xN_ (C:=λf=>Snd Z X (.callv i es) (.Call f l [] ps)) (an h).1 λy p h1=>?_;cases l with
  |nil=>exact(AH (an (an h).2).1).elim
  |cons z zs=>cases es with
   |nil=>exact(AH (an (an h).2).2).elim
   |cons e0 er=>
    have i0:=f6 Z e0 X _ hX (an (an (an h).2).2).1;have ir:=C6 Z er X _ hX (an (an (an h).2).2).2;refine Snd.pl ?_ rfl;exact b78 (Z:=Z) (beq_iff_eq.1 (an h1).1) (bb6 (an (an h1).2).1) (D8 (an (an h1).2).2).1 (D8 (an (an h1).2).2).2 hX.fnx hX.clo (Q0 i0.v ir.a i0.st) i0.st (ir.pl _)
 |.isT t a,X,x,hX,h=>ar1 h λq p r ps h1 h2=>S8 (C:=λr=>Snd Z X (.isT t a) (.Call (.Name "isinstance" q) [p,r] [] ps)) (an h2).1 λnp=>by
  have hin:t∈L8:=List.contains_iff_mem.1 (an (an (an h2).2).2).1;obtain⟨b1,b2,b3,b4⟩:=cg3 hin;have ia:=f6 Z a X _ hX (an (an (an h2).2).2).2;exact Snd.pl (by exact cv6 hin (p9 h1) (hX.blt' _) (p9 (an (an h2).2).1) (hX.blt' _ b4) b1 b2 b3 ia.v ia.st) rfl
 |.fld a f,X,x,hX,h=>xA_ h λo g ap h=>by
  cases beq_iff_eq.1 (an h).1;exact Snd.pl (by exact cp4 (C:=Z.C) (λc Ca=>hX.cls _ c Ca) (f6 Z a X _ hX (an (an h).2).2).v (A8 (J8 (an (an h).2).1))) rfl
 |.meth a m es,X,x,hX,h=>xM_ h λo ap l cp hl h=>by
  refine xN_ (C:=λo=>Snd Z X (.meth a m es) (.Call (.Attribute o m ap) l [] cp)) (an h).1 λy py h1=>?_;have ia:=f6 Z a X _ hX h1;have iall:=C6 Z es X _ hX (an (an h).2).1;refine Snd.pl ?_ rfl;cases l with
  |nil=>
   cases es with
   |nil=>exact PE.imp (ca8 (F:=Z.F) (Ph:=Z.Phi) (λc Ca=>hX.mth m c Ca) hl ia.v) λσ H Q⟨env,st,Qd,hE,hS,ht,hq⟩=>⟨env,st,Qd,hE,hS,(by exact ht),hq⟩
   |cons _ _=>exact(AH (an (an h).2).1).elim
  |cons z zs=>
   cases es with
   |nil=>exact(AH (an (an h).2).1).elim
   |cons e0 er=>
    exact ch9 (F:=Z.F) (Ph:=Z.Phi) (λc Ca=>hX.mth m c Ca) (mcF (iall.pl cp) (of_decide_eq_true (an (an h).2).2)) hl ia.v iall.a (f6 Z e0 X _ hX (an (an (an h).2).1).1).st ((C6 Z er X _ hX (an (an (an h).2).1).2).pl _)
 |.methd a m es,X,x,hX,h=>xM_ h λo ap l cp hl h=>by
  refine xN_ (C:=λo=>Snd Z X (.methd a m es) (.Call (.Attribute o m ap) l [] cp)) (an h).1 λy py h1=>?_;have ia:=f6 Z a X _ hX h1;have h2:=an (an (an h).2).2;have iall:=C6 Z es X _ hX h2.1;refine Snd.pl ?_ rfl;cases l with
  |nil=>exact(AH (an (an h).2).1).elim
  |cons z zs=>cases es with
   |nil=>exact(AH h2.1).elim
   |cons e0 er=>
    exact b64 (F:=Z.F) (Ph:=Z.Phi) (C:=Z.C) (λc Ca i=>hX.mthd m c Ca i) (mcF (iall.pl cp) (of_decide_eq_true h2.2)) hl ia.v iall.a (f6 Z e0 X _ hX (an h2.1).1).st ((C6 Z er X _ hX (an h2.1).2).pl _)
 |.make c es,X,x,hX,h=>xG_ h λq l ps h1 h=>by
  have iall:=C6 Z es X _ hX (an h).2;refine Snd.pl ?_ rfl
  by_cases hF:Z.MF (c7 c "__init__")=AC
  ·obtain⟨Ca,k,f,fd,ps,hn,M,Fo,hr,hm,hb⟩:=hX.mks c hF;cases l with
   |nil=>
    cases es with
    |nil=>exact PE.imp (ca4 hn M Fo hr (p9 h1) hm hb (D8 (an h).1).1) λσ H Q⟨env,st,Qd,hE,hS,ht,hq⟩=>⟨env,st,Qd,hE,hS,(by exact ht.2),hq⟩
    |cons _ _=>exact(AH (an h).2).elim
   |cons z zs=>
    cases es with
    |nil=>exact(AH (an h).2).elim
    |cons e0 er=>
     exact PE.imp (cd3 hn M Fo hr (p9 h1) hm hb iall.a (D8 (an h).1).1 (f6 Z e0 X _ hX (an (an h).2).1).st ((C6 Z er X _ hX (an (an h).2).2).pl _)) λσ H Q⟨env,st,Qd,hE,hS,ht,hq⟩=>⟨env,st,Qd,hE,hS,ht.2,hq⟩
  ·exact aq5 hF λ_ _ _ ht=>ht.1
 |.app a b,X,x,hX,h=>T7 h λo ap p cp hl h1 h2 h3=>
  have ib:=f6 Z b X _ hX h3
  Snd.pl (by exact ct5 (f6 Z a X _ hX h2).v ib.v (J8 h1) ib.st hl) rfl
 |.ext a b,X,x,hX,h=>T7 h λo ap p cp hl h1 h2 h3=>
  have ib:=f6 Z b X _ hX h3
  Snd.pl (by exact cr7 (f6 Z a X _ hX h2).v ib.v (J8 h1) ib.st hl) rfl
 |.popAt a b,X,x,hX,h=>T7 h λo ap p cp hl h1 h2 h3=>
  have ib:=f6 Z b X _ hX h3
  Snd.pl (by exact ca7 (f6 Z a X _ hX h2).v ib.v (J8 h1) ib.st hl) rfl
 |.pop a,X,x,hX,h=>bt3 h λo ap cp hl h1 h2=>Snd.pl (by exact cr3 (f6 Z a X _ hX h2).v (J8 h1) hl) rfl
 |.denu a,X,x,hX,h=>C8 h λq z ps h1 h=>C8 (C:=λz=>Snd Z X (.denu a) (.Call (.Name "dict" q) [z] [] ps)) h λq2 p ps2 h2 h3=>
  have ia:=f6 Z a X _ hX h3
  Snd.pl (by exact ck9 hX.calm (p9 h1) (hX.blt' _) (p9 h2) (hX.blt' _) ia.v ia.st) rfl
 |.igt a b,X,x,hX,h=>T7 h λo ap p cp hl h1 h2 h3=>
  have ib:=f6 Z b X _ hX h3
  Snd.pl (by exact cs6 hX.units (f6 Z a X _ hX h2).v ib.v (J8 h1) ib.st hl) rfl
 |.dnt,X,x,hX,h=>xD_ h λl r p h=>by
  cases l with
  |cons=>exact(AH h).elim
  |nil=>cases r with
   |cons=>exact(AH h).elim
   |nil=>exact Snd.pl (by exact cq4 (c:=Z.C "!kt") λhz=>by rw[hX.kt];cases e:Z.C "!kt" with|nil=>exact absurd e hz|cons _ _=>rfl) rfl
 |.dgt a b,X,x,hX,h=>T7 h λo ap p cp hl h1 h2 h3=>
  have ib:=f6 Z b X _ hX h3
  Snd.pl (by exact cu9 hX.units (f6 Z a X _ hX h2).v ib.v (J8 h1) ib.st hl) rfl
 |.din ne a b,X,x,hX,h=>ad2 h λq p r ps h=>by
  have e:=beq_iff_eq.1 (an h).1;have ia:=f6 Z a X _ hX (an (an h).2).1;have ib:=f6 Z b X _ hX (an (an h).2).2;exact Snd.cm (by exact cu8 e hX.units ia.v ib.v ib.se) (by unfold wpT;exact cv1 e hX.units ia.v ib.v ib.se)
 |.lrev a,X,x,hX,h=>bt3 h λo ap cp hl h1 h2=>Snd.pl (by exact cf9 (f6 Z a X _ hX h2).v (J8 h1) hl) rfl
 |.index a b,X,x,hX,h=>T7 h λo ap p cp hl h1 h2 h3=>
  have ib:=f6 Z b X _ hX h3
  Snd.pl (by exact ca5 hX.units (f6 Z a X _ hX h2).v ib.v (J8 h1) ib.st hl) rfl
 |.comp Nc fr k t it c e,X,x,hX,h=>c44 h λel g scope pos h=>by
  refine l1_ (C:=λg=>Snd Z X (.comp Nc fr k t it c e) (.ListComp el g scope pos)) h λg h=>?_;obtain⟨tg,itx,ifs,n⟩:=g;obtain⟨h0,h⟩:=an h;cases(beq_iff_eq.1 h0:n=0);obtain⟨h1,h⟩:=an h;obtain⟨h2,h⟩:=an h;obtain⟨h3,h⟩:=an h;have Sc:=av8 h1;exact Snd.pl (PE.imp (cj9 hX.calm Sc (ao9 Z it X tg itx hX h2)
   (λC fp pins s H=>ao0 (X:=X.comp scope Nc C fp pins s H) (ow:=AG) hX.calm Sc.nd nofun h3)
   (λC fp pins s H=>bs5 (X:=X.comp scope Nc C fp pins s H) (an h).2 λx h=>f6 Z c (X.comp scope Nc C fp pins s H) x (hX.comp (X9 h1) Sc C fp pins s H) h)
   (λC fp pins s H=>(f6 Z e (X.comp scope Nc C fp pins s H) el (hX.comp (X9 h1) Sc C fp pins s H) (an h).1).v) (ao1 h2)) λσ H Q q=>aw7 q) rfl
theorem C6(Z:Sg):∀(es:Es)(X:Cx)(xs:List AS),XOk Z X->mEs es X.env.scope X.N xs=AC->SndA Z X es xs
 |.nil,X,xs,hX,h=>by
  cases xs with
  |nil=>exact⟨by exact bh0,λ_=>rfl⟩
  |cons=>exact(AH h).elim
 |.cons e r,X,xs,hX,h=>by
  cases xs with
  |nil=>exact(AH h).elim
  |cons x xs=>
   have i0:=f6 Z e X _ hX (an h).1;have ir:=C6 Z r X _ hX (an h).2;refine⟨by exact Q0 i0.v ir.a i0.st,λpos=>?_⟩;rw[l7 i0.st];exact ir.pl pos
theorem bj8(Z:Sg):∀(vs:Es)(X:Cx)(ks:List Str)(keys:List (Option AS))(xs:List AS)(dp:Pos),XOk Z X->mKs ks keys=AC->mEs vs X.env.scope X.N xs=AC->ks.length=vs.len ->
  DPs X dp keys xs ks (o8 Z vs)∧keys.all (·.isSome)=AC∧keys.length=xs.length∧keys.length=ks.length
 |.nil,X,ks,keys,xs,dp,hX,h1,h2,h3=>by
  cases xs with
  |cons=>exact(AH h2).elim
  |nil=>cases ks with
   |cons=>cases h3
   |nil=>cases keys with
    |nil=>exact⟨by exact cp9,rfl,rfl,rfl⟩
    |cons=>exact(AH h1).elim
 |.cons e r,X,ks,keys,xs,dp,hX,h1,h2,h3=>by
  cases xs with
  |nil=>exact(AH h2).elim
  |cons x xs=>cases ks with
   |nil=>cases h3
   |cons k ks=>cases keys with
    |nil=>exact(AH h1).elim
    |cons kx keys=>cases kx with
     |none=>exact(AH h1).elim
     |some kx=>
      obtain⟨d,a1,a2,a3⟩:=bj8 Z r X ks keys _ dp hX (an h1).2 (an h2).2 (GV h3);refine P1 (C:=λkx=>DPs X dp (AA kx::keys) (x::xs) (k::ks) (o8 Z (.cons e r))∧_) (an h1).1 λn p=>?_;exact⟨by exact ch2 (f6 Z e X _ hX (an h2).1).v d,a1,congrArg (·+1) a2,congrArg (·+1) a3⟩
theorem ao9(Z:Sg):∀(it:It)(X:Cx)(tg x:AS),XOk Z X->mIt it X.env.scope X.N tg x=AC->PI X tg x (upI X.K (z0 Z it))
 |.seq e,X,tg,x,hX,h=>by exact cq5 (f6 Z e X x hX h).v
 |.rng a,X,tg,x,hX,h=>C8 (C:=λx=>PI X tg x (upI X.K (z0 Z (.rng a)))) h λq p ps h1 h2=>
  have ia:=f6 Z a X _ hX h2
  (by exact cv4 (p9 h1) (hX.blt' _) ia.v ia.st)
 |.rng2 a b,X,tg,x,hX,h=>ar1 (C:=λx=>PI X tg x (upI X.K (z0 Z (.rng2 a b)))) h λq p r ps h1 h2=>
  have ia:=f6 Z a X _ hX (an h2).1;have ib:=f6 Z b X _ hX (an h2).2
  (by exact ci5 (p9 h1) (hX.blt' _) ia.v ib.v ia.st ib.st)
 |.enum e,X,tg,x,hX,h=>xT_ (C:=λtg=>PI X tg x (upI X.K (z0 Z (.enum e)))) (an h).1 λl n tp _=>C8 (C:=λx=>PI X _ x (upI X.K (z0 Z (.enum e)))) (an h).2 λq p ps h1 h2=>
  have ia:=f6 Z e X _ hX h2
  (by exact cc2 (p9 h1) (hX.blt' _) ia.v ia.st)
 |.revt e,X,tg,x,hX,h=>C8 (C:=λx=>PI X tg x (upI X.K (z0 Z (.revt e)))) h λq p ps h1 h2=>
  have ia:=f6 Z e X _ hX h2
  (by exact ci3 (p9 h1) (hX.blt' _) ia.v ia.st)
 |.rev e,X,tg,x,hX,h=>C8 (C:=λx=>PI X tg x (upI X.K (z0 Z (.rev e)))) h λq p ps h1 h2=>
  have ia:=f6 Z e X _ hX h2
  (by exact cr8 (p9 h1) (hX.blt' _) ia.v ia.st)
end
end Ek
namespace Ek
open PySem PySem.Spec PyProof.Rows L2
variable [Tbs]
variable{x:BR}{C:BR->Prop}{e:E}{sc scope:BH}{N:List Str}{el:AS}{gs:List Hj}{p:Pos}{n:Nat}{env:Env}
noncomputable def sA(x:BR)(k:List AS->AS->Pos->Bool):Bool:=if h:x.ctorIdx=5 then Er x h k else AG
def sA_{k:List AS->AS->Pos->Bool}(h:sA x k=AC)(H:∀l x p,k l x p=AC->C (.Assign l x p)):C x:=
 dE h λe=>Er (motive_2:=λx=>∀e,Er x e k=AC->C x) x e (λl x p _ h=>H l x p h) e
noncomputable def sX(x:BR)(k:AS->Pos->Bool):Bool:=if h:x.ctorIdx=24 then Fk x h k else AG
def sX_{k:AS->Pos->Bool}(h:sX x k=AC)(H:∀x p,k x p=AC->C (.Expr x p)):C x:=
 dE h λe=>Fk (motive_2:=λx=>∀e,Fk x e k=AC->C x) x e (λx p _ h=>H x p h) e
noncomputable def sI(x:BR)(k:AS->List BR->List BR->Pos->Bool):Bool:=if h:x.ctorIdx=12 then Gc x h k else AG
def sI_{k:AS->List BR->List BR->Pos->Bool}(h:sI x k=AC)(H:∀x a b p,k x a b p=AC->C (.If x a b p)):C x:=
 dE h λe=>Gc (motive_2:=λx=>∀e,Gc x e k=AC->C x) x e (λx a b p _ h=>H x a b p h) e
noncomputable def sR(x:BR)(k:Option AS->Pos->Bool):Bool:=if h:x.ctorIdx=3 then Et x h k else AG
def sR_{k:Option AS->Pos->Bool}(h:sR x k=AC)(H:∀x p,k x p=AC->C (.Return x p)):C x:=
 dE h λe=>Et (motive_2:=λx=>∀e,Et x e k=AC->C x) x e (λx p _ h=>H x p h) e
noncomputable def sF(x:BR)(k:AS->AS->List BR->List BR->Pos->Bool):Bool:=if h:x.ctorIdx=9 then GD x h k else AG
def sF_{k:AS->AS->List BR->List BR->Pos->Bool}(h:sF x k=AC)(H:∀g x a b p,k g x a b p=AC->C (.For g x a b p)):C x:=
 dE h λe=>GD (motive_2:=λx=>∀e,GD x e k=AC->C x) x e (λg x a b p _ h=>H g x a b p h) e
noncomputable def sW(x:BR)(k:AS->List BR->List BR->Pos->Bool):Bool:=if h:x.ctorIdx=11 then FL x h k else AG
def sW_{k:AS->List BR->List BR->Pos->Bool}(h:sW x k=AC)(H:∀x a b p,k x a b p=AC->C (.While x a b p)):C x:=
 dE h λe=>FL (motive_2:=λx=>∀e,FL x e k=AC->C x) x e (λx a b p _ h=>H x a b p h) e
noncomputable def sC(x:BR)(k:Pos->Bool):Bool:=if h:x.ctorIdx=27 then EL x h k else AG
def sC_{k:Pos->Bool}(h:sC x k=AC)(H:∀p,k p=AC->C (.Continue p)):C x:=
 dE h λe=>EL (motive_2:=λx=>∀e,EL x e k=AC->C x) x e (λp _ h=>H p h) e
noncomputable def sP(x:BR)(k:Pos->Bool):Bool:=if h:x.ctorIdx=25 then Fl x h k else AG
def sP_{k:Pos->Bool}(h:sP x k=AC)(H:∀p,k p=AC->C (.Pass p)):C x:=
 dE h λe=>Fl (motive_2:=λx=>∀e,Fl x e k=AC->C x) x e (λp _ h=>H p h) e
noncomputable def sD(x:BR)(k:Str->Cr->List BR->List AS->Option AS->List TypeParam->BH->Option BH->Str->Pos->Bool):Bool:=if h:x.ctorIdx=0 then Dc x h k else AG
def sD_{k:Str->Cr->List BR->List AS->Option AS->List TypeParam->BH->Option BH->Str->Pos->Bool}(h:sD x k=AC)(H:∀name args body dl rt tp scope ts bind p,k name args body dl rt tp scope ts bind p=AC->C (.FunctionDef name args body dl rt tp scope ts bind p)):C x:=
 dE h λe=>Dc (motive_2:=λx=>∀e,Dc x e k=AC->C x) x e (λname args body dl rt tp scope ts bind p _ h=>H name args body dl rt tp scope ts bind p h) e
noncomputable def sA1(s:BR)(k:AS->AS->Bool):Bool:=sA s λl x _=>l1 l λt=>k t x
def ac8{s:BR}{k:AS->AS->Bool}{C:BR->Prop}(h:sA1 s k=AC)(H:∀t x p,k t x=AC->C (.Assign [t] x p)):C s:=
 sA_ h λl x p h=>l1_ (C:=λl=>C (.Assign l x p)) h λt h=>H t x p h
mutual
noncomputable def mS:S->BH->List Str->BR->Bool
 |.set i e,sc,N,s=>sA1 s λt x=>mE e sc N x&&xN t λy _=>(N[i]?==AA y)&&(K9 sc y&&!(N.contains (v3 y)))
 |.pre _,_,_,_=>AG
 |.dput o i v,sc,N,s=>sA1 s λt x=>(mE v sc N x&&O5 x)&&xS t λp q _=>mE o sc N p&&mE i sc N q
 |.put o i v,sc,N,s=>sA1 s λt x=>(mE v sc N x&&O5 x)&&xS t λp q _=>mE o sc N p&&mE i sc N q
 |.fldS o f v,sc,N,s=>sA1 s λt x=>(mE v sc N x&&O5 x)&&xA t λp g _=>(g==f)&&mE o sc N p
 |.ex e,sc,N,s=>sX s λx _=>mE e sc N x&&O5 x
 |.iff c a b,sc,N,s=>sI s λx p q _=>(mE c sc N x&&B3 x)&&(mSs a sc N p&&mSs b sc N q)
 |.ret e,sc,N,s=>sR s λx _=>GC (motive:=λ_=>Bool) x AG (mE e sc N)
 |.retN,_,_,s=>sR s λx _=>x.isNone
 |.for t it b,sc,N,s=>sF s λtg x p q _=>q.isEmpty&&(mTg AC t sc N tg&&(mIt it sc N tg x&&mSs b sc N p))
 |.while c b,sc,N,s=>sW s λx p q _=>q.isEmpty&&((mE c sc N x&&B3 x)&&mSs b sc N p)
 |.cont,_,_,s=>sC s λ_=>AC
 |.dead,_,_,_=>AC
 |.dfn i np Nl cp b,sc,N,s=>sD s λname args body dl rt tp scope ts bind _=>(dl.isEmpty&&rt.isNone&&tp.isEmpty&&ts.isNone)&&(Y3 args).any λps=>(name==bind)&&((N[i]?==AA name)&&(K9 sc name&&(!(N.contains (v3 name))&&(N.contains r9&&(ao2 sc N scope Nl ps np cp&&(!(Nl.contains r9)&&mSs b scope Nl body))))))
 |.pass,_,_,s=>sP s λ_=>AC
noncomputable def mSs:Ss->BH->List Str->List BR->Bool
 |.nil,_,_,l=>l.isEmpty
 |.cons s r,sc,N,l=>Db (motive:=λ_=>Bool) l AG λx xs=>mS s sc N x&&mSs r sc N xs
end
noncomputable def mFB(b:Ss)(sc:BH)(N:List Str)(fb:DM):Prop:=N.contains r9=AG∧match fb with
 |.stmts l=>mSs b sc N l=AC
 |.expr x=>∃e,b=.cons (.ret e) .nil∧mE e sc N x=AC
noncomputable abbrev HF(X:Cx):Prop:=∀y,Loc X.env.scope y->X.N.contains (v3 y)=AG->X.fn y=AC∨X.env.scope.names.lookup y=AA .local
def c20:mE e sc N (.SetComp el gs scope p)=AG:=by cases e<;>rfl
def c03{a b:AS}:mE e sc N (.DictComp a b gs scope p)=AG:=by cases e<;>rfl
def cz5(h:mE e sc N (.ListComp el gs scope p)=AC):∃Nc fr k t it c e',e=.comp Nc fr k t it c e':=by
 cases e<;>first|exact⟨_,_,_,_,_,_,_,rfl⟩|exact absurd h AH
def U8{x:AS}{t:Option AS}(h:O5 x=AC):Cb x t n env=pure AG:=by
 cases x<;>first|rfl|cases h
def cd2{x t:AS}(h:O5 x=AC):Fm [t] x n env=pure AG:=by
 rw[Fm];exact U8 h
def by5{py:Pos}{y:Str}:∃b,Cb (.ListComp el gs scope p) (AA (.Name y py)) n env=pure b:=⟨_,rfl⟩
mutual
theorem c54(Z:Sg)(hm:∀(b:Ss)(sc:BH)(N:List Str)(l:List BR),mSs b sc N l=AC->N.contains r9=AG->Tbs.mt b sc N (.stmts l)):∀(s:S)(X:Cx)(x:BR),XOk Z X->HF X->mS s X.env.scope X.N x=AC->PS X x (upS X.K (wpS Z s))
 |.set i e,X,x,hX,hf,h=>ac8 (C:=λx=>PS X x (upS X.K (wpS Z (.set i e)))) h λtx v pos h=>xN_ (C:=λtx=>PS X (.Assign [tx] v pos) (upS X.K (wpS Z (.set i e)))) (an h).2 λy py h2=>by
  have h3:=(an h).1;have ie:=f6 Z e X v hX h3;have h1:=beq_iff_eq.1 (an h2).1;have hl:=Q7 (an (an h2).2).1;have hf:=hf y hl (nt (an (an h2).2).2)
  by_cases hc:O5 v=AC
  ·exact am7 hX.nd h1 hl ie.v (U8 hc) hf
  ·cases v with
   |ListComp el gs scope p=>
    obtain⟨b,hb⟩:=by5 (el:=el) (gs:=gs) (scope:=scope) (p:=p) (py:=py) (y:=y) (n:=pos.line) (env:=X.env);cases b with
    |false=>exact am7 hX.nd h1 hl ie.v hb hf
    |true=>
     obtain⟨Nc,fr,k,t,it,c,e,rfl⟩:=cz5 h3;revert hb;refine l1_ (C:=λgs=>Cb (.ListComp el gs scope p) (AA (.Name y py)) pos.line X.env=pure AC->PS X (.Assign [.Name y py] (.ListComp el gs scope p) pos) (upS X.K (wpS Z (.set i (.comp Nc fr k t it c e))))) h3 λg h hb=>?_;obtain⟨tg,itx,ifs,n⟩:=g;obtain⟨h0,h⟩:=an h;cases(beq_iff_eq.1 h0:n=0);obtain⟨g1,h⟩:=an h;obtain⟨g2,h⟩:=an h;obtain⟨g3,h⟩:=an h;have Sc:=av8 g1;exact PS.imp (bz7 hX.calm hX.nd h1 hl hf Sc (ao9 Z it X tg itx hX g2)
      (λC fp pins s H=>ao0 (X:=X.comp scope Nc C fp pins s H) (ow:=AG) hX.calm Sc.nd nofun g3)
      (λC fp pins s H=>bs5 (X:=X.comp scope Nc C fp pins s H) (an h).2 λx h=>f6 Z c (X.comp scope Nc C fp pins s H) x (hX.comp (X9 g1) Sc C fp pins s H) h)
      (λC fp pins s H=>(f6 Z e (X.comp scope Nc C fp pins s H) el (hX.comp (X9 g1) Sc C fp pins s H) (an h).1).v) hb (ao1 g2)) λF σ H⟨env,st,Fd,hE,hS,ht',hq⟩=>
      aw7 ⟨env,st,(λd st'=>Fd.nx (env.set i (AA d)) st'),hE,hS,ht',λv d H' st' ev is rs q=>hq.nx _ _ H' st' ev ((hE.mono (ev.tk hS)).set is i) rs q⟩
   |SetComp el gs scope p=>exact(AH (c20.symm.trans h3)).elim
   |DictComp a b gs scope p=>exact(AH (c03.symm.trans h3)).elim
   |_=>exact absurd rfl hc
 |.pre i,X,x,hX,hf,h=>(AH h).elim
 |.dput o i v,X,x,hX,hf,h=>ac8 (C:=λx=>PS X x (upS X.K (wpS Z (.dput o i v)))) h λtx y pos h=>xS_ (C:=λtx=>PS X (.Assign [tx] y pos) (upS X.K (wpS Z (.dput o i v)))) (an h).2 λp q ps h2=>
  (by exact cc9 hX.units (f6 Z v X y hX (an (an h).1).1).v (f6 Z o X p hX (an h2).1).v (f6 Z i X q hX (an h2).2).v (U8 (an (an h).1).2))
 |.put o i v,X,x,hX,hf,h=>ac8 (C:=λx=>PS X x (upS X.K (wpS Z (.put o i v)))) h λtx y pos h=>xS_ (C:=λtx=>PS X (.Assign [tx] y pos) (upS X.K (wpS Z (.put o i v)))) (an h).2 λp q ps h2=>by
  have iq:=f6 Z i X q hX (an h2).2;refine cp8 (f6 Z v X y hX (an (an h).1).1).v (f6 Z o X p hX (an h2).1).v iq.v (λw=>?_) (cd2 (an (an h).1).2) rfl;cases q<;>first|rfl|exact absurd rfl (iq.sl _ _ _ _)
 |.fldS o f v,X,x,hX,hf,h=>ac8 (C:=λx=>PS X x (upS X.K (wpS Z (.fldS o f v)))) h λtx y pos h=>xA_ (C:=λtx=>PS X (.Assign [tx] y pos) (upS X.K (wpS Z (.fldS o f v)))) (an h).2 λp g ps h2=>by
  cases beq_iff_eq.1 (an h2).1;exact ce4 (hX.cls _) (f6 Z v X y hX (an (an h).1).1).v (f6 Z o X p hX (an h2).2).v (U8 (an (an h).1).2)
 |.ex e,X,x,hX,hf,h=>sX_ (C:=λx=>PS X x (upS X.K (wpS Z (.ex e)))) h λx p h=>(by exact cx1 (f6 Z e X _ hX (an h).1).v (U8 (an h).2))
 |.iff c a b,X,x,hX,hf,h=>sI_ (C:=λx=>PS X x (upS X.K (wpS Z (.iff c a b)))) h λx p q ps h=>
  (by exact cz8 ((f6 Z c X _ hX (an (an h).1).1).t (an (an h).1).2) (M3 Z hm a X _ hX hf (an (an h).2).1) (M3 Z hm b X _ hX hf (an (an h).2).2))
 |.ret e,X,x,hX,hf,h=>sR_ (C:=λx=>PS X x (upS X.K (wpS Z (.ret e)))) h λx p h=>by
  cases x with
  |none=>exact(AH h).elim
  |some x=>exact cn9 (f6 Z e X _ hX h).v
 |.retN,X,x,hX,hf,h=>sR_ (C:=λx=>PS X x (upS X.K (wpS Z .retN))) h λx p h=>by
  cases x with
  |some _=>exact(AH h).elim
  |none=>exact ck1
 |.for t it b,X,x,hX,hf,h=>sF_ (C:=λx=>PS X x (upS X.K (wpS Z (.for t it b)))) h λtg x p q ps h=>by
  cases q with
  |cons=>exact(AH h).elim
  |nil=>exact cr0 hX.pass hX.calm (ao9 Z it X _ _ hX (an (an (an h).2).2).1) (ao0 hX.calm hX.nd (λ_=>hf) (an (an h).2).1) (M3 Z hm b X _ hX hf (an (an (an h).2).2).2) (ao1 (an (an (an h).2).2).1)
 |.while c b,X,x,hX,hf,h=>sW_ (C:=λx=>PS X x (upS X.K (wpS Z (.while c b)))) h λx p q ps h=>by
  cases q with
  |cons=>exact(AH h).elim
  |nil=>exact b84 hX.pass ((f6 Z c X _ hX (an (an (an h).2).1).1).t (an (an (an h).2).1).2) (M3 Z hm b X _ hX hf (an (an h).2).2)
 |.cont,X,x,hX,hf,h=>sC_ (C:=λx=>PS X x (upS X.K (wpS Z .cont))) h λ_ _=>(by exact cg2)
 |.dfn i np Nl cp b,X,x,hX,hf,h=>sD_ (C:=λx=>PS X x (upS X.K (wpS Z (.dfn i np Nl cp b)))) h λname args body dl rt tp scope ts bind p h=>by
  cases hp:Y3 args with
  |none=>rw[hp]at h;exact(AH (an h).2).elim
  |some ps=>
   rw[hp]at h;obtain⟨z,j⟩:=an h;obtain⟨h0,j0⟩:=an (show(_&&_)=AC from j);obtain⟨h1,j1⟩:=an j0;obtain⟨h2,j2⟩:=an j1;obtain⟨h3,j3⟩:=an j2;obtain⟨h4,j4⟩:=an j3;obtain⟨h5,j5⟩:=an j4;clear h j j0 j1 j2 j3 j4;cases beq_iff_eq.1 h0;cases dl with
   |cons=>exact(AH z).elim
   |nil=>cases rt with
    |some=>exact(AH z).elim
    |none=>cases tp with
     |cons=>exact(AH z).elim
     |nil=>cases ts with
      |some=>exact(AH z).elim
      |none=>
       obtain⟨L,hc⟩:=hX.lam h4;obtain⟨a1,a2,a3,a4,a5⟩:=by7 hp;exact co1 hX.nd (beq_iff_eq.1 h1) (Q7 h2) (hf _ (Q7 h2) (nt h3)) a1 a2 a4 L (ci6 h5 hc (hm b scope Nl body (an j5).2 (nt (an j5).1)) (λname qual cl doc pm cv ct us hl=>a5 name qual _ scope cl doc pm cv ct us hl))
 |.dead,X,x,hX,hf,h=>λ_ _ _ _ _ _⟨_,_,_,_,_,ht,_⟩=>ht.elim
 |.pass,X,x,hX,hf,h=>sP_ (C:=λx=>PS X x (upS X.K (wpS Z .pass))) h λ_ _=>(by exact cf1)
theorem M3(Z:Sg)(hm:∀(b:Ss)(sc:BH)(N:List Str)(l:List BR),mSs b sc N l=AC->N.contains r9=AG->Tbs.mt b sc N (.stmts l)):∀(l:Ss)(X:Cx)(xs:List BR),XOk Z X->HF X->mSs l X.env.scope X.N xs=AC->PSs X xs (upS X.K (f8 Z l))
 |.nil,X,xs,hX,hf,h=>by
  cases xs with
  |nil=>exact cs7
  |cons=>exact(AH h).elim
 |.cons s r,X,xs,hX,hf,h=>by
  cases xs with
  |nil=>exact(AH h).elim
  |cons x xs=>
   rw[f8];exact ce2 (c54 Z hm s X _ hX hf (an h).1) (M3 Z hm r X _ hX hf (an h).2)
end
end Ek
namespace Ek
open PySem PySem.Spec PyProof.Rows L2
variable [Tbs]
variable{mg:Str->Option AF}{h:BC}{f c m:Str}{st:BR}{ps:List Str}{fa a:AI}{od:Option AI}{sl:Array (Option AF)}{dc pm cd ct:AF}{n:Nat}{fd:Ba}{w:Ax}{H:Hp}{X:Cx}
noncomputable def mP(i:Nat)(sc:BH)(N:List Str):BR->Bool
 |.Assign [.Name y _] (.Dict [] [] _) _=>(N[i]?==AA y)&&K9 sc y
 |_=>AG
noncomputable def mB:Ss->BH->List Str->List BR->Bool
 |.cons (.pre i) r,sc,N,s::l=>mP i sc N s&&mB r sc N l
 |b,sc,N,l=>mSs b sc N l
structure Stat0(st:BR)(d:Def)(ps:List Str):Prop where
 sc:FnScope d.N ps (l8 st)
 np:ps.length=d.np
 body:mB d.body (l8 st) d.N (u5 st)=AC
structure Stat(st:BR)(d:Def)(ps:List Str)(x f:Str):Prop extends Stat0 st d ps where
 bind:∀(kV doc pm:AF)(an:Option AI)(cdv ct:AF)(us:List AF),us.length=ps.length->BX (Cw x f (x0 st) (u5 st) (l8 st) .none kV doc pm an cdv ct) ⟨us,[]⟩=pure (ps.zip us)
structure FunD(K:AO)(x qual:Str)(st:BR)(f:AI)(fd:Ba):Prop where
 ex:∃(oc:AF)(od:Option AI)(dV kV doc pm:AF)(an:Option AI)(cdv ct:AF)(osl:Array (Option AF)),
  fd=Cw x qual (x0 st) (u5 st) (l8 st) dV kV doc pm an cdv ct∧K.lookup f=AA ⟨oc,od,.func fd,osl⟩∧Cu K cdv qual=AC
 kp:Bh K (.ref f)=AC
structure DefAt(K:AO)(f:Str)(d:Def)(a:AI)(fd:Ba)(ps:List Str):Prop where
 ex:∃(st:BR)(x:Str),FunD K x f st a fd∧Stat0 st d ps
 bd:p8 K fd ps []
 lam:d.N.contains r9=AC->∃c P,fd.code=.ref c∧Bt K c P=AC∧P∈Tbs.ps
structure DefOk(K:AO)(mg:Str->Option AF)(f:Str)(d:Def):Prop where
 ex:∃(a:AI)(fd:Ba)(ps:List Str),DefAt K f d a fd ps∧mg f=AA (.ref a)∧Aw K AN f=AA (AA (.ref a))∧∀us:List AF,us.length=ps.length->BX fd ⟨us,[]⟩=pure (ps.zip us)
structure MthOk(K:AO)(mg:Str->Option AF)(df:Option Int)(c m:Str)(d:Def):Prop where
 ex:∃(Ca a:AI)(fd:Ba)(ps:List Str),DefAt K (c7 c m) d a fd ps∧Aw K AN c=AA (AA (.ref Ca))∧mg c=AA (.ref Ca)∧Cls K Ca∧Meth K Ca m a∧(m="__init__"->Mk K Ca a)∧∀i,df=AA i->∃tk,p8 K fd ps [.int i tk]
 nom:Aw K AN (c7 c m)=AA AE
theorem J2:∀{a b a' b':List Nat},(46:Nat)∉a'->(46:Nat)∉b'->a++46::b=a'++46::b'->a=a'∧b=b'
 |[],b,[],b',_,_,h=>⟨rfl,by simpa using h⟩
 |[],b,x::a',b',h1,_,h=>by
  simp only[DW,CB,Ah]at h;exact absurd (h.1▸Br) h1
 |x::a,b,[],b',_,h2,h=>by
  simp only[DW,CB,Ah]at h;exact absurd (h.2▸BD _ Br) h2
 |x::a,b,y::a',b',h1,h2,h=>by
  simp only[CB,Ah]at h;obtain⟨e,f⟩:=J2 (λz=>h1 (Ao _ z)) h2 h.2;exact⟨by rw[h.1,e],f⟩
def cw1{K:AO}{d:Def}{an:Option AI}{oc kV:AF}(X:K.In h)(G:h.Ns AN mg)(S:Stat st d ps f f)
  (a1:Aw K AN f=AA (AA (.ref fa))) (l1:K.lookup fa=AA ⟨oc,od,.func (Cw f f (x0 st) (u5 st) (l8 st) .none kV dc pm an cd ct),sl⟩) (c1:Cu K cd f=AC) (k1:Bh K (.ref fa)=AC)
  (m1:d.N.contains r9=AC->∃c P,cd=.ref c∧Bt K c P=AC∧P∈Tbs.ps:=by exact λh=>absurd h (by decide+kernel)):DefOk K mg f d:=
 ⟨fa,_,ps,⟨⟨st,f,⟨⟨_,_,_,_,_,_,_,_,_,_,rfl,l1,c1⟩,k1⟩,S.toStat0⟩,.all (S.bind kV dc pm an cd ct),m1⟩,Hh X G a1,a1,S.bind kV dc pm an cd ct⟩
def co4{K:AO}{d:Def}{Ca:AI}{an:Option AI}{oc kV:AF}{df:Option Int}(X:K.In h)(G:h.Ns AN mg)(S:Stat st d ps m (c7 c m))
  (a0:Aw K AN (c7 c m)=AA AE) (a1:Aw K AN c=AA (AA (.ref Ca))) (hc:Cls K Ca) (hm:Meth K Ca m fa) (hi:m="__init__"->Mk K Ca fa)
  (l1:K.lookup fa=AA ⟨oc,od,.func (Cw m (c7 c m) (x0 st) (u5 st) (l8 st) .none kV dc pm an cd ct),sl⟩) (c1:Cu K cd (c7 c m)=AC)
  (m1:d.N.contains r9=AC->∃c P,cd=.ref c∧Bt K c P=AC∧P∈Tbs.ps:=by exact λh=>absurd h (by decide+kernel)) (hdf:df=AE:=by decide+kernel):MthOk K mg df c m d:=
 ⟨⟨Ca,fa,_,ps,⟨⟨st,m,⟨⟨_,_,_,_,_,_,_,_,_,_,rfl,l1,c1⟩,hm.kp⟩,S.toStat0⟩,.all (S.bind kV dc pm an cd ct),m1⟩,a1,Hh X G a1,hc,hm,hi,λi h=>by rw[hdf]at h;cases h⟩,a0⟩
def ce9{K:AO}{d:Def}{Ca T:AI}{an td:Option AI}{tsl:Array (Option AF)}{oc kV tc:AF}{df:Option Int}{i:Int}{tk:Tok}(X:K.In h)(G:h.Ns AN mg)(S:Stat0 st d ps)
  (hb:∀(s:AJ)(o:Obj)(n:Nat),s.heap.get? T=AA o->o.data=.seq #[.int i tk] n->(∀us:List AF,us.length=ps.length->GM s (Cw m (c7 c m) (x0 st) (u5 st) (l8 st) (.ref T) kV dc pm an cd ct) ⟨us,[]⟩ (ps.zip us))∧∀us:List AF,us.length+1=ps.length->GM s (Cw m (c7 c m) (x0 st) (u5 st) (l8 st) (.ref T) kV dc pm an cd ct) ⟨us,[]⟩ (ps.zip (us++[.int i tk])))
  (a0:Aw K AN (c7 c m)=AA AE) (a1:Aw K AN c=AA (AA (.ref Ca))) (hc:Cls K Ca) (hm:Meth K Ca m fa) (hi:m="__init__"->Mk K Ca fa)
  (l1:K.lookup fa=AA ⟨oc,od,.func (Cw m (c7 c m) (x0 st) (u5 st) (l8 st) (.ref T) kV dc pm an cd ct),sl⟩) (c1:Cu K cd (c7 c m)=AC) (t1:K.lookup T=AA ⟨tc,td,.seq #[.int i tk] n,tsl⟩)
  (m1:d.N.contains r9=AC->∃c P,cd=.ref c∧Bt K c P=AC∧P∈Tbs.ps:=by exact λh=>absurd h (by decide+kernel)) (hdf:df=AA i:=by decide+kernel):MthOk K mg df c m d:=
 ⟨⟨Ca,fa,_,ps,⟨⟨st,m,⟨⟨_,_,_,_,_,_,_,_,_,_,rfl,l1,c1⟩,hm.kp⟩,S⟩,λs us hK hl=>by
   rw[BP]at hl ⊢;exact(hb s _ _ (hK _ _ t1) rfl).1 us hl,m1⟩,a1,Hh X G a1,hc,hm,hi,λj h=>by
   rw[hdf]at h;cases h;exact⟨tk,λs us hK hl=>(hb s _ _ (hK _ _ t1) rfl).2 us (by simpa using hl)⟩⟩,a0⟩
def DefAt.binds{K:AO}{d:Def}(D:DefAt K f d a fd ps):p8 K fd ps []:=D.bd
theorem DefAt.kp{K:AO}{d:Def}(D:DefAt K f d a fd ps):Bh K (.ref a)=AC:=by
 obtain⟨st,x,F,S⟩:=D.ex;exact F.kp
structure AllOk(Pr:Ai)(w:Ax)(K:AO)(mg:Str->Option AF)(P:i8)(G:Gs):Prop where
 fns:∀f d,P f=AA d->isM f=AG->DefOk K mg f d
 mts:∀f d,P f=AA d->isM f=AC->∃c m,f=c7 c m∧isM c=AG∧isM m=AG∧MthOk K mg (A7 G.cls (c7 c m)) c m d
 cls:∀f c Ca,Aw K AN c=AA (AA (.ref Ca))->f∈G.cls c->Cls K Ca∧F7 K Ca f
 blt:∀b∈P9,mg b=AE
 tabs:∀g,G.tab g≠[]->GTab Pr w K mg g (G.tab g)
 cst:∀g i,G.cst g=AA i->∃t,mg g=AA (.int i t)
 kt:Tbs.kt=(G.cls "!kt").isEmpty
def cc0:isM (c7 c m)=AC:=by
 unfold isM c7;simp
def b62{c' m':Str}(h1:isM c'=AG)(h2:isM m'=AG)(h:c7 c m=c7 c' m'):c=c'∧m=m':=by
 unfold isM at h1 h2;unfold c7 at h;have h':=congrArg (λs:Str=>s.cps.toList) h;simp only[Eo,CT,List.singleton_append]at h';have e:=J2 (by simpa using h1) (by simpa using h2) h';exact⟨by cases c;cases c';simpa using e.1,by cases m;cases m';simpa using e.2⟩
def AllOk.mth{Pr:Ai}{K:AO}{P:i8}{G:Gs}(h:AllOk Pr w K mg P G){d:Def}(e:P (c7 c m)=AA d):MthOk K mg (A7 G.cls (c7 c m)) c m d:=by
 obtain⟨c',m',e',h1,h2,M⟩:=h.mts _ d e cc0;obtain⟨rfl,rfl⟩:=b62 h1 h2 e';exact M
def b43{K:AO}{d:Def}{ds:List D}{vs:List V}(r:IsDs K H ds vs):RelE K H (aa7 d ds) (L2.v6 d.N vs):=at4 r
def ay0{pins:List (AI×Obj)}{σ:L2.St}{s:AJ}(I:L2.Inv X pins σ H s)(hfn:∀x,X.fn x=AC)(g k:Str->Bool)(e:AF->AJ->Prop):L2.Inv {X with fn:=g,ow:=k,xe:=e} pins σ H s:=
 ⟨⟨I.ok.mod,I.ok.kind,I.ok.glob,I.ok.blt,I.ok.above,I.ok.inj,I.ok.has,λx c _ h=>I.ok.cab x c (.inl (hfn x)) h,I.ok.hd,I.ok.frames,I.ok.stk,I.ok.exf,I.ok.bs,I.ok.bsz,I.ok.noex,I.ok.exfs,I.ok.funs,I.ok.frf⟩,I.os,I.bare,I.base,I.loc,I.cell,I.free,
  λx c h=>.inl ((I.freeC x c h).resolve_right λz=>by rw[hfn x]at z;exact absurd z.1 (by decide)),I.pin,I.hok,I.len⟩
noncomputable def Cxa(X:Cx):Cx:={X with fn:=λ_=>AC}
def V4{pins:List (AI×Obj)}{σ:L2.St}{s:AJ}(I:L2.Inv (Cxa X) pins σ H s):L2.Inv X pins σ H s:=ay0 I (λ_=>rfl) X.fn X.ow X.xe
noncomputable def P4(X:Cx)(l:List BR)(t:TS):Prop:=∀(pins:List (AI×Obj))(s:AJ)(σ:L2.St)(H:Hp)(D:Ends),Inv (Cxa X) pins σ H s->t D σ H->AT (model X.prog X.w) X.A (execs l X.env) (SP X pins D) X.xe s
def P4.cons{x:BR}{i5:List BR}{t u:DS}(h1:PS (Cxa X) x (upS X.K t))(h2:P4 X i5 (upS X.K u)):P4 X (x::i5) (upS X.K λF env st=>t {F with nx:=u F} env st):=by
 intro pins s σ H D I h;obtain⟨env,st,Fd,hE,hS,ht,hq⟩:=h;refine Jg (thn (h1 pins s σ H {D with nx:=λσ' H'=>∃env' st',RelE X.K H' env' σ'∧RelS X.K st' H'∧u Fd env' st'∧EndsR X.K st' H' Fd D} I ⟨env,st,_,hE,hS,ht,⟨λenv' σ' H' st' ev hE' hS' q=>⟨env',st',hE',hS',q,hq.after ev⟩,hq.bk,hq.ct,hq.rt⟩⟩) λf s1 q=>?_);cases f with
 |next=>
  obtain⟨σ',H',I',env',st',e1,e2,e3,e4⟩:=q;exact h2 pins s1 σ' H' D I' ⟨env',st',Fd,e1,e2,e3,e4⟩
 |ret v=>obtain⟨v',σ',H',I',q⟩:=q;exact⟨v',σ',H',V4 I',q⟩
 |brk=>obtain⟨σ',H',I',q⟩:=q;exact⟨σ',H',V4 I',q⟩
 |cont=>obtain⟨σ',H',I',q⟩:=q;exact⟨σ',H',V4 I',q⟩
theorem bt6(Z:Sg)(hm:∀(b:Ss)(sc:BH)(N:List Str)(l:List BR),mSs b sc N l=AC->N.contains r9=AG->Tbs.mt b sc N (.stmts l)){X:Cx}(hX:XOk Z X)(hF:HF X):∀(l:Ss)(xs:List BR),mB l X.env.scope X.N xs=AC->P4 X xs (upS X.K (f8 Z l))
 |.nil,xs,h=>λpins s σ H D I q=>M3 Z hm .nil X xs hX hF h pins s σ H D (V4 I) q
 |.cons x r,xs,h=>by
  have old:mSs (.cons x r) X.env.scope X.N xs=AC->P4 X xs (upS X.K (f8 Z (.cons x r))):=λh pins s σ H D I q=>M3 Z hm (.cons x r) X xs hX hF h pins s σ H D (V4 I) q;cases x with
  |pre i=>
   cases xs with
   |nil=>exact old h
   |cons s l=>
    have h':(mP i X.env.scope X.N s&&mB r X.env.scope X.N l)=AC:=h;simp only[At]at h';obtain⟨h1,h2⟩:=h';unfold mP at h1
    split at h1
    ·simp only[At,beq_iff_eq]at h1;exact P4.cons (t:=λF env st=>∀p,st p=AE->F.nx (env.set i (AA (.ref p))) (b0 st p (.dct []))) (PS.imp (am7 (X:=Cxa X) hX.nd h1.1 (Q7 h1.2) cn4 rfl (.inl rfl)) λF σ H q=>q) (bt6 Z hm hX hF r l h2)
    ·cases h1
  |_=>exact old h
noncomputable def cxF(P:Ai)(w:Ax)(K:AO)(mg:Str->Option AF)(base:BC)(N:List Str)(qual:Str)(scope:BH)(f:AI)(cd:AF)(A:BL)(outer:List Env)(s:AJ)(H:Hp):Cx:=
 {ac7 CX0 P w K mg base N qual scope f cd A outer s H E0 with fn:=λy=>!(N.contains (v3 y)),ow:=λ_=>AC,xe:=λ_ _=>False}
def cs9{P:Ai}{K:AO}{base:BC}{k:Nat}{f:AI}{x qual:Str}{N:List Str}{sp:Sp}(F:FunD K x qual st f fd)(S:FnScope N ps (l8 st))
  (len:∀vs H Q E,sp vs H Q E->vs.length=ps.length)
  (hbody:∀(A:BL)(outer:List Env)(s:AJ)(H:Hp)(vs:List V)(Q:VK)(E:XK),Room k (A.deeper (GY qual (l8 st) s.heap.objs.size f fd.code))->sp vs H Q E ->
   ∃t,P4 (cxF P w K mg base N qual (l8 st) f fd.code A outer s H) (u5 st) t∧t {nx:=λ_ H'=>Q .non H',rt:=Q} (L2.v6 N vs) H) :
  FnOk P w K mg base CX0 (k+1) f fd ps sp:=by
 obtain⟨oc,od,dV,kV,doc,pm,an,cdv,ct,osl,rfl,lk,hcd⟩:=F.ex;refine⟨len,λA outer s H args us vs Q E hr e0 hb r hsp=>?_⟩;have hl:=len _ _ _ _ hsp;have KX:K.In s.heap:=e0.mod.kin.keeps λb o e=>(e0.bs b o e).1;have lim:s.heap.NoLimit:=e0.mod.nolimit.keeps λb o e=>(e0.bs b o e).1;have hkind:∀y∈ps.zip us,(l8 st).names.lookup y.1=AA .local∨((l8 st).names.lookup y.1=AA .cell∧((Jl (s.heap.objs.size+1) (l8 st).names []).lookup y.1).isSome=AC):=λ⟨n,v⟩hy=>by
  rcases S.par n (Fs hy).1 with q|q
  ·exact .inl q
  ·exact .inr ⟨q,JG _ _ _ (.inl q)⟩
 refine codeAny_call_function hr.depth (KX _ _ lk) rfl S.co S.gen rfl (W.codeRec_of KX hcd) (hb _ _ _ _ ?_);refine wpAny_newFunctionEnv_cells S.kind hkind λenv he s1 x=>?_;subst he;refine⟨lim.keeps x.toInCall.keep,codeAny_func ?_⟩;obtain⟨t,ht,hq⟩:=hbody A outer s H vs Q E (hr.deeper _) hsp;have I0:Inv (ac7 CX0 P w K mg base N qual (l8 st) f cdv A outer s H E0) [] (L2.v6 N vs) H s1:=b16 S hr.hd e0 hl r x;have I:Inv (Cxa (cxF P w K mg base N qual (l8 st) f cdv A outer s H)) [] (L2.v6 N vs) H s1:=ay0 I0 (λ_=>rfl) _ _ _;refine Bd (ht [] s1 (L2.v6 N vs) H _ I hq) (λfl s' hs=>?_) λe s' hs=>AZ hs;have fin:∀{σ':L2.St}{H':Hp}{v:V}{u:AF},Inv (cxF P w K mg base N qual (l8 st) f cdv A outer s H) [] σ' H' s'->f9 v u->Q v H'->CE outer P w H s Q u s':=
  λ{σ' H' v u}J rv q=>⟨v,H',J.os,J.bare,J.base,J.hok,rv,q⟩
 cases fl with
 |ret u=>
  obtain⟨v,σ',H',J,rv,q⟩:=hs;exact fin J rv q
 |next=>
  obtain⟨σ',H',J,q⟩:=hs;exact fin (v:=V.non) (u:=Bf) J rfl q
 |brk=>
  obtain⟨_,_,_,q⟩:=hs;exact AZ q
 |cont=>
  obtain⟨_,_,_,q⟩:=hs;exact AZ q
section
variable {Pr:Ai} {K:AO} {base:BC} {P:i8} {G:Gs}
structure LvOk(Pr:Ai)(w:Ax)(K:AO)(mg:Str->Option AF)(base:BC)(P:i8)(G:Gs)(n:Nat):Prop where
 fn:∀m,m<=n->∀(f:Str)(d:Def),P f=AA d->∀(a:AI)(fd:Ba)(ps:List Str),DefAt K f d a fd ps->FnOk Pr w K mg base CX0 m a fd ps (y3 K (sem P G m f))
 clo:∀np N b cs fa fd ps,CloF fd np N ps b->FnOk Pr w K mg base CX0 n fa fd ps (X0 K fa fd np N cs (J9 P G n np N b cs))
noncomputable abbrev Zl(P:i8)(G:Gs)(n:Nat):Sg:=⟨λf=>(P f).isSome,sem P G n,G.tab,G.cls,(u3 P G n).2.1,λf=>(u3 P G n).2.2.1&&(P f).isSome,J9 P G n,G.cst⟩
def bf1(hA:AllOk Pr w K mg P G)(L:LvOk Pr w K mg base P G n)(e1:X.prog=Pr)(e2:X.w=w)(e3:X.K=K)(e4:X.mg=mg)(e5:X.base=base)(hr:Room n X.A)(calm:X.calm=AC)(xe:X.xe=λ_ _=>False)(nd:X.N.Nodup)
  (lam:X.N.contains r9=AC->LamOk X∧∀x,X.N.contains (v3 x)=AC->X.fn x=AG∧X.ow x=AC)
  (mt:∀b sc N fb,mFB b sc N fb->Tbs.mt b sc N fb):XOk (Zl P G n) X where
 calm:=calm
 xe:=xe
 units:=by have:=hr.un;lia
 nd:=nd
 blt:=by rw[e4];exact hA.blt
 fns:=λg hi hg=>by
  obtain⟨dg,hdg⟩:=BW.mp hg;obtain⟨ag,fdg,pg,Dg,mgg,nsg,_⟩:=(hA.fns g dg hdg hi).ex;refine⟨n,ag,fdg,pg,?_,hr,by rw[e4];exact mgg,by rw[e3];exact Dg.kp,by rw[e3];exact Dg.binds,by rw[e3];exact nsg⟩;rw[e1,e2,e3,e4,e5];exact L.fn n (AU _) g dg hdg ag fdg pg Dg
 nom:=λg ga hg hn=>by
  obtain⟨dg,hdg⟩:=BW.mp hg;cases e:isM g with
  |false=>rfl
  |true=>
   obtain⟨c,m,rfl,_,_,M⟩:=hA.mts g dg hdg e;rw[e3,M.nom]at hn;cases hn
 cls:=by rw[e3];exact hA.cls
 mth:=λm c Ca hc hg=>by
  obtain⟨dg,hdg⟩:=BW.mp hg;obtain⟨Ca',ag,fdg,pg,Dg,nsc,mgc,C1,M1,I1,_⟩:=(hA.mth hdg).ex;rw[e3,nsc]at hc;cases hc;refine⟨n,ag,fdg,pg,by rw[e3];exact C1,by rw[e3];exact M1,?_,hr,by rw[e3];exact Dg.binds⟩;rw[e1,e2,e3,e4,e5];exact L.fn n (AU _) _ dg hdg ag fdg pg Dg
 mthd:=λm c Ca i hc hg hi=>by
  obtain⟨dg,hdg⟩:=BW.mp hg;obtain⟨Ca',ag,fdg,pg,Dg,nsc,mgc,C1,M1,I1,D1⟩:=(hA.mth hdg).ex;rw[e3,nsc]at hc;cases hc;obtain⟨tk,hb⟩:=D1 i hi;refine⟨n,ag,fdg,pg,tk,by rw[e3];exact C1,by rw[e3];exact M1,?_,hr,by rw[e3];exact hb⟩;rw[e1,e2,e3,e4,e5];exact L.fn n (AU _) _ dg hdg ag fdg pg Dg
 mks:=λc hg=>by
  simp only[At]at hg;obtain⟨dg,hdg⟩:=BW.mp hg.2;obtain⟨Ca',ag,fdg,pg,Dg,nsc,mgc,C1,M1,I1,_⟩:=(hA.mth hdg).ex;cases n with
  |zero=>exact absurd hg.1 AH
  |succ m=>
   refine⟨Ca',m,ag,fdg,pg,by rw[e3];exact nsc,by rw[e3];exact I1 rfl,?_,hr,by rw[e4];exact mgc,by rw[e3];exact Dg.binds⟩;rw[e1,e2,e3,e4,e5];exact L.fn m (Gv _) _ dg hdg ag fdg pg Dg
 tabs:=by rw[e1,e2,e3,e4];exact hA.tabs
 cst:=by rw[e4];exact hA.cst
 kt:=hA.kt
 lam:=lam
 mtE:=λe sc N x h1 h2=>mt _ _ _ _ ⟨h2,e,rfl,h1⟩
 clo:=λnp N b cs fa fd ps cf=>⟨n,by rw[e1,e2,e3,e4,e5];exact L.clo np N b cs fa fd ps cf,hr⟩
def ce3:LvOk Pr w K mg base P G 0:=by
 refine⟨λm hm f d hf a fd ps D=>?_,λnp N b cs fa fd ps cf=>?_⟩
 ·obtain rfl:m=0:=by lia
  have no:∀vs H Q E,¬y3 K (sem P G 0 f) vs H Q E:=λvs H Q E h=>by
   obtain⟨ds,s0,Qd,_,_,h,_⟩:=h;exact h
  exact⟨λvs H Q E h=>absurd h (no vs H Q E),λA outer s H args us vs Q E _ _ _ _ h=>absurd h (no vs H Q E)⟩
 ·have no:∀vs H Q E,¬X0 K fa fd np N cs (J9 P G 0 np N b cs) vs H Q E:=λvs H Q E h=>by
   obtain⟨us0,ds,st,Qd,_,_,_,_,h,_⟩:=h;exact h
  exact⟨λvs H Q E h=>absurd h (no vs H Q E),λA outer s H args us vs Q E _ _ _ _ h=>absurd h (no vs H Q E)⟩
def cf6(hA:AllOk Pr w K mg P G)(hb0:S5 mg base)(hK0:K.In base)(mt:∀b sc N fb,mFB b sc N fb↔Tbs.mt b sc N fb)(L:LvOk Pr w K mg base P G n):LvOk Pr w K mg base P G (n+1):=by
 have hmS:∀(b:Ss)(sc:BH)(N:List Str)(l:List BR),mSs b sc N l=AC->N.contains r9=AG->Tbs.mt b sc N (.stmts l):=λb sc N l h1 h2=>(mt _ _ _ _).mp ⟨h2,h1⟩;refine⟨λm hm f d hf a fd ps D=>?_,λnp N b cs fa fd ps cf=>?_⟩
 ·by_cases hmn:m<=n
  ·exact L.fn m hmn f d hf a fd ps D
  obtain rfl:m=n+1:=by lia
  obtain⟨st,x,F,S⟩:=D.ex;refine cs9 F S.sc (λvs H Q E h=>?_) (λA outer s H vs Q E hr h=>?_)
  ·obtain⟨ds,s0,Qd,is,_,hs,_⟩:=h;obtain⟨d',hd',hl,_⟩:=hs;rw[hf]at hd';cases hd';rw[<-is.len,hl,S.np]
  ·obtain⟨ds,s0,Qd,is,rs,hs,hq⟩:=h;obtain⟨d',hd',hl,hb⟩:=hs;rw[hf]at hd';cases hd';have hX:XOk (Zl P G n) (cxF Pr w K mg base d.N f (l8 st) a fd.code A outer s H):=bf1 hA L rfl rfl rfl rfl rfl hr rfl rfl S.sc.nd (λhl=>by
    obtain⟨c,P',e1,e2,e3⟩:=D.lam hl;refine⟨⟨⟨c,P',e1,KO hK0 e2,e3⟩,hb0⟩,λx hx=>⟨?_,rfl⟩⟩;show(!(d.N.contains (v3 x)))=AG;have hx':d.N.contains (v3 x)=AC:=hx;rw[hx'];rfl) λb sc N fb=>(mt b sc N fb).mp
   have hF:HF (cxF Pr w K mg base d.N f (l8 st) a fd.code A outer s H):=λy _ hy=>.inl (by
    show(!(d.N.contains (v3 y)))=AC;have hy':d.N.contains (v3 y)=AG:=hy;rw[hy'];rfl)
   refine⟨_,bt6 _ hmS hX hF d.body _ S.body,aa7 d ds,s0,_,b43 is,rs,hb,λenv σ H' st' ev hE hS q=>?_,λenv σ H' st' ev hE hS q=>q.elim,λenv σ H' st' ev hE hS q=>q.elim,λv e H' st' ev is' rs' q=>?_⟩
   ·obtain⟨s2,sub,q⟩:=q;exact hq _ .non H' s2 (ev.drop sub) .non (hS.sub sub) q
   ·obtain⟨s2,sub,q⟩:=q;exact hq v e H' s2 (ev.drop sub) is' (rs'.sub sub) q
 ·refine cu3 (Z:=Zl P G n) cf λq A outer s H hr=>?_;obtain⟨hnl,hfb⟩:=(mt _ _ _ _).mpr cf.mt;have hX:XOk (Zl P G n) (cxC Pr w K mg base N fd.scope fd.closure q fa fd.code A outer s H):=bf1 hA L rfl rfl rfl rfl rfl hr rfl rfl cf.sc.nd (λhl=>by
   have hl':N.contains r9=AC:=hl;rw[hnl]at hl';cases hl') λb sc N fb=>(mt b sc N fb).mp
  have hF:HF (cxC Pr w K mg base N fd.scope fd.closure q fa fd.code A outer s H):=λy hy _=>by
   have hy':fd.scope.names.lookup y=AA .local∨fd.scope.names.lookup y=AA .cell:=hy
   rcases hy' with z|z
   ·exact .inr z
   ·exact absurd rfl (cf.sc.nocell _ (PySem.mem_of_lookup z))
  cases hb:fd.body with
  |stmts l=>rw[hb]at hfb;exact M3 _ hmS b _ l hX hF hfb
  |expr x=>
   rw[hb]at hfb;obtain⟨e,rfl,he⟩:=hfb;exact⟨e,rfl,(f6 _ e _ x hX he).v⟩
theorem bf2(hA:AllOk Pr w K mg P G)(hb0:S5 mg base)(hK0:K.In base)(mt:∀b sc N fb,mFB b sc N fb↔Tbs.mt b sc N fb):∀n,LvOk Pr w K mg base P G n
 |0=>ce3
 |n+1=>cf6 hA hb0 hK0 mt (bf2 hA hb0 hK0 mt n)
end
noncomputable def st0(a:AI)(ns:List Int):Sto:=λb=>if b=a then AA (.fro (ns.map D.int))else AE
theorem av2{K:AO}:∀ns:List Int,IsDs K H (ns.map D.int) (ns.map V.int)
 |[]=>.nil
 |n::r=>.cons (.int n) (av2 r)
noncomputable def Q2(K:AO):Bool:=K.all λp=>!(p.2.cls==.type "list")
def au2{K:AO}{o:Obj}(h:Q2 K=AC)(e:K.lookup a=AA o):o.cls≠.type "list":=by
 unfold Q2 at h;rw[Dh]at h;have hm:(a,o)∈K:=by
  induction K with
  |nil=>cases e
  |cons p r ih=>
   obtain⟨b,x⟩:=p;rw[De]at e;cases q:a==b with
   |true=>rw[q]at e;cases e;rw[beq_iff_eq.mp q];exact Br
   |false=>rw[q]at e;exact Ao _ (ih (λp hp=>h p (Ao _ hp)) e)
 have:=h _ hm;simpa using this
end Ek
namespace Ek
open PySem PySem.Spec PyProof.Rows L2
def b35{P:Ai}{w:Ax}{K:AO}{mg mb:Str->Option AF}{k:Nat}{fa a:AI}{fd:Ba}{x:Str}{sp:Sp}{s₁:AJ}{vs:List AF}{ns:List Int}{ts:List AI}
  (KX:K.In s₁.heap) (hns:s₁.heap.Ns AN mg) (hb:s₁.heap.Ns Ck mb) (hbb:∀x:Str,x≠"__name__"->mb x=BA x) (hlim:s₁.heap.NoLimit) (hbm:S5 mg s₁.heap) (hg:s₁.gens=#[])
  (ha:s₁.heap.get? a=AA {cls:=.type "list",data:=.seq vs.toArray}) (hi:GP vs ns) (hl:ns.length<=sizeLine) (hr:Room k HB)
  (hT:∀P∈ts,s₁.heap.get? P=AA (Gp #[])∧isCodeTable s₁.heap P) (hKt:∀P∈ts,K.lookup P=AE) (hKa:K.lookup a=AE)
  (F:∀base:BC,K.In base->base.Ns AN mg->S5 mg base->FnOk P w K mg base CX0 k fa fd [x] sp) (hbind:∀(s:AJ)(u:AF),GM s fd ⟨[u],[]⟩ [(x,u)])
  (hsp:∀H:Hp,(∀P∈ts,H P=AA (.tbl #[]))->SqL K H a (ns.map V.int)->sp [.ref a] H (λv _=>v=.bl AC) λ_ _ _=>False) :
  Dq (model P w) HB (.call (.ref fa) ⟨[.ref a],[]⟩) (λr s'=>r=.ok (.ret (.bool AC))∧OldK s₁.heap s'.heap∧s'.os=s₁.os∧GF s'.gens) s₁:=by
 have rv:=av1 hi;have naT:a∉ts:=λz=>by
  have:=(hT a z).1;rw[ha]at this;cases this
 let H:Hp:=λb=>if b=a then AA (.frz {cls:=.type "list",data:=.seq vs.toArray} (.lst (ns.map V.int)))else if b∈ts then AA (.tbl #[])else AE
 have Ha:H a=AA (.frz {cls:=.type "list",data:=.seq vs.toArray} (.lst (ns.map V.int))):=if_pos rfl;have Ht:∀P∈ts,H P=AA (.tbl #[]):=λP hP=>by
  have ne:P≠a:=λz=>naT (z▸hP);show(if P=a then _ else if P∈ts then _ else _)=_;rw[if_neg ne,if_pos hP]
 have Hc:∀b u,H b=AA u->b=a∨b∈ts:=λb u e=>by
  by_cases h1:b=a
  ·exact .inl h1
  ·by_cases h2:b∈ts
   ·exact .inr h2
   ·have e':(if b=a then AA (HO.frz {cls:=.type "list",data:=.seq vs.toArray} (.lst (ns.map V.int)))else if b∈ts then AA (.tbl #[])else AE)=AA u:=e;rw[if_neg h1,if_neg h2]at e';cases e'
 have hok:HOk P w H s₁.heap:=λb u e=>by
  rcases Hc b u e with rfl|hb
  ·rw[Ha]at e;cases e;exact⟨ha,by rw[AV];exact hl,vs,_,rv,ha⟩
  ·rw[Ht b hb]at e;cases e;exact(hT b hb).1
 have A8:∀{b:AI}{o:Obj},s₁.heap.get? b=AA o->H b=AE->(G1 s₁.heap H).get? b=AA o:=λe n=>cb2 e n;have none_of:∀b o,s₁.heap.get? b=AA o->(∀xs n,o.data≠.seq xs n)->(∀xs,o.data≠.fields xs)->H b=AE:=λb o e n1 n2=>by
  cases q:H b with
  |none=>rfl
  |some u=>
   rcases Hc b u q with rfl|hb
   ·rw[ha]at e;cases e;exact absurd rfl (n1 _ _)
   ·rw[(hT b hb).1]at e;cases e;exact absurd rfl (n2 _)
 have nsK:∀{b:AI}{m:Str->Option AF},s₁.heap.Ns b m->(G1 s₁.heap H).Ns b m:=λ{b m}⟨o,es,ep,e,d,r⟩=>⟨o,es,ep,A8 e (none_of b o e (by rw[d];exact λ_ _=>nofun) (by rw[d];exact λ_=>nofun)),d,r⟩;have hKb:K.In (G1 s₁.heap H):=λb o e=>A8 (KX b o e) (by
  cases q:H b with
  |none=>rfl
  |some u=>
   rcases Hc b u q with rfl|hb
   ·rw[hKa]at e;cases e
   ·rw[hKt b hb]at e;cases e)
 have hBb:S5 mg (G1 s₁.heap H):=by
  obtain⟨bm,ob,b1,b2,b3,b4,b5,b6⟩:=hbm;exact⟨bm,ob,b1,b2,A8 b3 (none_of bm ob b3 (by rw[b6];exact λ_ _=>nofun) (by rw[b6];exact λ_=>nofun)),b4,b5,b6⟩
 have hM:Mod K mg (G1 s₁.heap H):=⟨hKb,nsK hns,⟨mb,nsK hb,hbb⟩,let⟨mc,h1,h2⟩:=hlim;⟨mc,nsK h1,h2⟩⟩;have e0:Env0 P w K mg (G1 s₁.heap H) HB [] s₁ H:=⟨rfl,hM,λb o e=>cm2 e,Jj (b32 _ _),trivial,λb hb=>absurd (show b∈([]:List AI) from hb) (by simp),hok,.of_eq hg⟩;refine GN ((F _ hKb (nsK hns) hBb).run HB [] s₁ H ⟨[.ref a],[]⟩ [.ref a] [.ref a] _ _ hr e0 (hbind s₁ (.ref a)) (.cons rfl .nil) (hsp H Ht (.inl (.inr ⟨_,Ha⟩)))) λr s' h=>?_;cases r with
 |error e=>exact AZ h
 |ok fl=>
  cases fl with
  |next=>exact AZ h
  |brk=>exact AZ h
  |cont=>exact AZ h
  |ret u=>
   obtain⟨v,H',os,bare,un,hok',r',q⟩:=h;have q':v=.bl AC:=q;subst q';obtain rfl:u=GE AC:=r';refine⟨rfl,⟨λb o e=>?_,λb o e=>un.there b o e (by simp)⟩,os,bare⟩;cases q:H b with
   |none=>exact .inl (un.keep b o e q (by intro z;exact absurd (show b∈([]:List AI) from z) (by simp)) (by simp))
   |some u=>
    rcases Hc b u q with rfl|hb
    ·rw[Ha]at q;cases q;have z2:=un.frzs b _ _ Ha;obtain⟨e2,_⟩:=hok' b _ z2;rw[ha]at e;cases e;exact .inl e2
    ·obtain⟨t1,t2⟩:=hT b hb;rw[t1]at e;cases e;obtain⟨more,z⟩:=un.tbls b _ (Ht b hb);have e2:=hok' b _ z;exact .inr (.inl ⟨t2,rfl,#[],more,rfl,e2⟩)
def bw7 [Tbs]{K:AO}{h:BC}{a:AI}{o:Obj}(X:K.In h)(hn:Q2 K=AC)(e:h.get? a=AA o)(hc:o.cls=.type "list"):K.lookup a=AE:=by
 cases q:K.lookup a with
 |none=>rfl
 |some o'=>
  have:=X a o' q;rw[e]at this;cases this;exact absurd hc (au2 hn q)
def cg5{l:W.OpenLaw}{q:Ai}{loose:List Str}{XP:(Str->Option AF)->BC->Prop}{YP:Ax->BC->Prop}{d:DefRec}{K:Params->AO}{P:i8}{G:Gs}{n:Nat}{x:Str}{dl:Def}{ts:List AI}
  (hn:l.most=AA 63) (hdf:d.params.defaults=[]) (hdn:d.name="law") (hr:Room n HB) (hY:∀(w:Ax)(h:BC),YP w h->(K w.params).In h∧∀P∈ts,h.get? P=AA (Gp #[])) (hl:P "law"=AA dl)
  (hst:∀st ps,Stat0 st dl ps->ps=[x])
  (F:∀(w:Ax)(mg:Str->Option AF)(h:BC),(K w.params).In h->h.Ns AN mg->(letI:Tbs:=⟨ts,mFB,(G.cls "!kt").isEmpty⟩;AllOk l.prog w (K w.params) mg P G)∧Q2 (K w.params)=AC∧IH (K w.params)=AC∧∀P∈ts,∃c,Bt (K w.params) c P=AC)
  (core:∀(a:AI)(ns:List Int),ns.length<=63->sem P G n "law" [.ref a] (st0 a ns) λd _=>d=.bl AC) :
  W.WalkO q loose XP YP l.row.toRowW d [] (λf vs=>PySem.call f vs):=by
 letI:Tbs:=⟨ts,mFB,(G.cls "!kt").isEmpty⟩
 refine Att.attach_call hn hdf λw s₀ s₁ mg mb fa o pm cd doc a vs ns GG Y ho hd hcd hmg hobj hints hlen hg=>?_;obtain⟨KX,hTs⟩:=hY w _ Y;obtain⟨hA,hNL,hNT,hC⟩:=F w mg _ KX GG.T.g;obtain⟨ad,fd,ps,Df,mf,_,hbd⟩:=(hA.fns "law" dl hl (by decide+kernel)).ex;obtain⟨st,y,Ff,Sf⟩:=Df.ex;have e:=hst st ps Sf;subst e;rw[hdn]at hmg;have ea:fa=ad:=by rw[hmg]at mf;cases mf;rfl
 subst ea;have hKa:(K w.params).lookup a=AE:=bw7 KX hNL hobj rfl;refine b35 (ts:=ts) (sp:=y3 (K w.params) (sem P G n "law")) KX GG.T.g GG.T.b GG.T.builtins GG.T.nolimit GG.T.bmain hg hobj hints (BF hlen (by decide)) hr (λP hP=>⟨hTs P hP,?_⟩) (λP hP=>?_) hKa (λbase hb hbg hbm=>(bf2 hA hbm hb (λ_ _ _ _=>Iff.rfl) n).fn n (AU _) "law" dl hl fa fd [x] Df) (λs u=>.of_eq (hbd [u] rfl)) (λH hH hS=>?_)
 ·obtain⟨c,hc⟩:=hC P hP;exact((KO KX hc).tab (hTs P hP)).isCodeTable
 ·cases qq:(K w.params).lookup P with
  |none=>rfl
  |some o'=>
   have z:=KX P o' qq;rw[hTs P hP]at z;cases z;unfold IH at hNT;rw[Dh]at hNT;exact absurd (hNT _ (W.mem_of_lookupK qq)) AH
 ·refine⟨[.ref a],st0 a ns,_,.cons (.ref a) .nil,⟨λb o e=>?_,λP hP=>⟨#[],hH P hP,trivial,λpos cv z=>by cases z⟩⟩,core a ns hlen,λv d' H' st' ev is rs q=>?_⟩
  ·unfold st0 at e
   split at e
   ·rename_i hb;cases e;subst hb
    rcases hS with hS|⟨ob,its,m,hk,hc,_⟩
    ·exact⟨_,hS,av2 ns⟩
    ·exact absurd hc (au2 hNL hk)
   ·cases e
  ·have q':d'=.bl AC:=q;subst q';cases is;rfl
noncomputable def cf8(P:AI)(o:Obj):Bool:=match o with
 |⟨.type "code",_,.fields vs,_⟩=>(match(vs[11]?:Option AF)with|some (.ref P')=>P'==P|_=>AG)
 |_=>AG
noncomputable def ap5(K:AO)(ts:List AI):Bool:=ts.all λP=>match K.find? λp=>cf8 P p.2 with
 |some p=>Bt K p.1 P
 |none=>AG
def cf0{K:AO}{ts:List AI}(h:ap5 K ts=AC):∀P∈ts,∃c,Bt K c P=AC:=λP hP=>by
 unfold ap5 at h;rw[Dh]at h;have:=h P hP
 split at this
 ·exact⟨_,this⟩
 ·cases this
noncomputable def ab5(K:AO)(cd:AF):Option (AI×AI):=match cd with
 |.ref c=>(match K.lookup c with
  |some ⟨_,_,.fields vs,_⟩=>(match(vs[11]?:Option AF)with|some (.ref P)=>AA (c,P)|_=>AE)
  |_=>AE)
 |_=>AE
def bi9{K:AO}{cd:AF}{c P:AI}{ts:List AI}(h:ab5 K cd=AA (c,P))(h2:Bt K c P=AC)(h3:ts.contains P=AC):∃c P,cd=.ref c∧Bt K c P=AC∧P∈ts:=by
 unfold ab5 at h
 split at h
 ·split at h
  ·split at h
   ·cases h;exact⟨_,_,rfl,h2,by simpa using h3⟩
   ·cases h
  ·cases h
 ·cases h
end Ek
namespace Ek
open PySem L2
def ag4(s:String):Ab s=⟨(s.toList.map FM).toArray⟩:=by
 unfold Ab;rw[cpsOfBytes_string]
def bx5:∀(x y:Char),x.toNat=y.toNat->x=y:=λx y h=>Char.ext (UInt32.toNat_inj.mp h)
theorem at8:∀(a b:List Char),a.map FM=b.map FM->a=b
 |[],[],_=>rfl
 |[],_::_,h=>by simp at h
 |_::_,[],h=>by simp at h
 |x::a,y::b,h=>by
  simp only[Aa,Ah]at h;rw[bx5 x y h.1,at8 a b h.2]
def t5{a b:String}:(Ab a=Ab b)=(a=b):=by
 refine propext ⟨λh=>?_,λh=>by rw[h]⟩;rw[ag4,ag4]at h;simp only[Str.mk.injEq]at h;have h':a.toList.map FM=b.toList.map FM:=by simpa using h
 exact String.toList_inj.mp (at8 _ _ h')
def D5(s:String):(D.str (Ab s)).pure=AC:=by
 show JB (Ab s)=AC;unfold JB;rw[ag4];simp only[List.all_toArray,List.all_map,Dh];intro c _;have h:=c.valid;simp only[UInt32.isValidChar,Nat.isValidChar]at h;simp only[Function.comp_apply,decide_eq_true_eq];show c.val.toNat<1114112;lia
end Ek
namespace Ek
open PySem L2
variable{L:List AI}{st st':Sto}{a b c e v:E}{p:AI}{o u:Ob}{Q:DK}{f g:Str}{np i:Nat}{N:List Str}{es:Es}
noncomputable def Kp(L:List AI)(st st':Sto):Prop:=∀b o,b∉L->st b=AA o->st' b=AA o
def Kp.refl:Kp L st st:=λ_ _ _ h=>h
def Kp.trans{a b c:Sto}(x:Kp L a b)(y:Kp L b c):Kp L a c:=λd o n h=>y d o n (x d o n h)
def Kp.more{M:List AI}{a b:Sto}(x:Kp L a b)(s:∀d∈L,d∈M):Kp M a b:=λd o n h=>x d o (λz=>n (s d z)) h
def Kp.new(x:Kp L st st')(h:st' p=AE):Kp L st (b0 st' p o):=λd u n e=>by
 have e':=x d u n e;rw[B9 (λz=>by rw[z,h]at e';cases e')];exact e'
def Kp.put(x:Kp L st st')(h:p∈L):Kp L st (b0 st' p o):=λd u n e=>by
 rw[B9 (λz=>n (by rw[z];exact h))];exact x d u n e
def Kp.at'{b:AI}(x:Kp L st st')(h:st b=AA o)(n:b∉L):st' b=AA o:=x b o n h
def j6{a:AI}(h:st a=AA o)(hp:st p=AE):b0 st p u a=AA o:=by
 rw[B9 (λz=>by rw[z,hp]at h;cases h)];exact h
def j7{a:AI}(h:st a=AA o)(hp:st p=AE):a≠p:=λz=>by rw[z,hp]at h;cases h
def c8{a:AI}(h:st a=AA o)(n:a≠p):b0 st p u a=AA o:=by
 rw[B9 n];exact h
def N6{a:AI}:b0 (b0 st a o) a u=b0 st a u:=by
 funext b;unfold b0;split<;>rfl
noncomputable def r8(st:Sto)(a:AI):Prop:=∃l:List Int,st a=AA (.lst (l.map .int))
def r8.keep{b:AI}(h:r8 st b)(x:Kp L st st')(n:b∉L):r8 st' b:=let⟨l,e⟩:=h;⟨l,x.at' e n⟩
def r8.new{b:AI}(h:r8 st b)(hp:st p=AE):r8 (b0 st p u) b:=let⟨l,e⟩:=h;⟨l,j6 e hp⟩
def r8.ne{b:AI}(h:r8 st b)(hp:st p=AE):b≠p:=let⟨l,e⟩:=h;j7 e hp
noncomputable def j8(Q:DK):DEnds:={nx:=λ_ st'=>∃s2,Sub s2 st'∧Q .non s2,rt:=λd st'=>∃s2,Sub s2 st'∧Q d s2}
def c0{d:D}(h:Q d st):(j8 Q).rt d st:=⟨st,Sub.refl st,h⟩
def a86{env:i9}(h:Q .non st):(j8 Q).nx env st:=⟨st,Sub.refl st,h⟩
noncomputable abbrev Zg(P:i8)(G:Gs)(n:Nat):Sg:=⟨λf=>(P f).isSome,sem P G n,G.tab,G.cls,(u3 P G n).2.1,λf=>(u3 P G n).2.2.1&&(P f).isSome,J9 P G n,G.cst⟩
def g9{P:i8}{G:Gs}{n:Nat}{fd:Def}{ds:List D}(hP:P f=AA fd)(hl:ds.length=fd.np)(env:i9)(he:aa7 fd ds=env)
  (h:f8 (Zg P G n) fd.body (j8 Q) env st):sem P G (n+1) f ds st Q:=by
 rw[b98];exact⟨fd,hP,hl,by rw[he];exact h⟩
def aa5{P:i8}{G:Gs}{n:Nat}{b:Ss}{cs ds:List D}(hl:ds.length=np)(env:i9)(he:L9 N ds cs=env)
  (h:f8 (Zg P G n) b (j8 Q) env st):J9 P G (n+1) np N b cs ds st Q:=by
 rw[b53];exact⟨hl,by rw[he];exact h⟩
section
variable {Z:Sg} {F:DEnds} {env:i9} 
def bj3{s:S}{r:Ss}:f8 Z (.cons s r) F env st=wpS Z s ⟨f8 Z r F,F.rt,F.bk,F.ct⟩ env st:=rfl
def bm2:f8 Z .nil F env st=F.nx env st:=rfl
def bq1:wpS Z (.set i e) F env st=wpE Z e env st λd st1=>F.nx (env.set i (AA d)) st1:=rfl
def bp0:wpS Z (.pre i) F env st=∀p,st p=AE->F.nx (env.set i (AA (.ref p))) (b0 st p (.dct [])):=rfl
def be4{o i:E}:wpS Z (.dput o i v) F env st=wpE Z v env st λd st1=>wpE Z o env st1 λx st2=>wpE Z i env st2 λy st3=>ao4 x y d st3 λst4=>F.nx env st4:=rfl
def bm7{o i:E}:wpS Z (.put o i v) F env st=wpE Z v env st λd st1=>wpE Z o env st1 λx st2=>wpE Z i env st2 λy st3=>∃a j k ds,x=.ref a∧y=.int j∧st3 a=AA (.lst ds)∧ixN ds.length j=AA k∧F.nx env (b0 st3 a (.lst (ds.set k d))):=rfl
def bt1:wpS Z (.ex e) F env st=wpE Z e env st λ_ st1=>F.nx env st1:=rfl
def bj6{a b:Ss}:wpS Z (.iff c a b) F env st=wpE Z c env st λd st1=>∃k,d=.bl k∧if k=AC then f8 Z a F env st1 else f8 Z b F env st1:=rfl
def bq2:wpS Z (.ret e) F env st=wpE Z e env st F.rt:=rfl
def be6:wpS Z .retN F env st=F.rt .non st:=rfl
def bp4{t:Tg}{it:It}{b:Ss}:wpS Z (.for t it b) F env st=z0 Z it env st λitems chk st1=>p7 chk t (f8 Z b) F items env st1:=rfl
def bh7:wpS Z .cont F env st=F.ct env st:=rfl
def bg4:wpS Z .pass F env st=F.nx env st:=rfl
def bj5:wpE Z .non env st Q=Q .non st:=rfl
def bs7{b:Bool}:wpE Z (.bl b) env st Q=Q (.bl b) st:=rfl
def an5{i:Int}:wpE Z (.int i) env st Q=Q (.int i) st:=rfl
def an7{x:Str}:wpE Z (.str x) env st Q=Q (.str x) st:=rfl
def e_v:wpE Z (.v i) env st Q=∃d,env[i]?=AA (AA d)∧Q d st:=rfl
def bl3:wpE Z (.tup es) env st Q=o8 Z es env st λds st1=>Q (.tup ds) st1:=rfl
def bk2:wpE Z (.lst es) env st Q=o8 Z es env st λds st1=>∀p,st1 p=AE->Q (.ref p) (b0 st1 p (.lst ds)):=rfl
def bk4{o:Ec}:wpE Z (.bin o a b) env st Q=wpE Z a env st λx st1=>wpE Z b env st1 λy st2=>w8 o x y st2 Q:=rfl
def bn6:wpE Z (.neg a) env st Q=wpE Z a env st λx st1=>∃i,x=.int i∧Q (.int (-i)) st1:=rfl
def bn0{o:Dn}:wpE Z (.cmp o a b) env st Q=wpE Z a env st λx st1=>wpE Z b env st1 λy st2=>o0 o x y st2 Q:=rfl
def bk8:wpE Z (.isN a) env st Q=wpE Z a env st λx st1=>(x=.non∧Q (.bl AC) st1)∨(x≠.non∧Q (.bl AG) st1):=rfl
def bh8:wpE Z (.notN a) env st Q=wpE Z a env st λx st1=>(x=.non∧Q (.bl AG) st1)∨(x≠.non∧Q (.bl AC) st1):=rfl
def bo5:wpE Z (.and a b) env st Q=wpE Z a env st λx st1=>∃c,x=.bl c∧(if c=AC then wpE Z b env st1 Q else Q (.bl AG) st1):=rfl
def bq5:wpE Z (.or a b) env st Q=wpE Z a env st λx st1=>∃c,x=.bl c∧(if c=AC then Q (.bl AC) st1 else wpE Z b env st1 Q):=rfl
def bk7:wpE Z (.not a) env st Q=wpE Z a env st λx st1=>∃c,x=.bl c∧Q (.bl (!c)) st1:=rfl
def bj4:wpE Z (.ite c a b) env st Q=wpE Z c env st λx st1=>∃k,x=.bl k∧(if k=AC then wpE Z a env st1 Q else wpE Z b env st1 Q):=rfl
def bu1:wpE Z (.ix a b) env st Q=wpE Z a env st λx st1=>wpE Z b env st1 λy st2=>ixR x y st2 Q:=rfl
noncomputable def bnd(Z:Sg)(e:E)(env:i9)(st:Sto):(Option Int->Sto->Prop)->Prop:=if e.isNon=AC then λk=>k AE st else λk=>wpE Z e env st λd st'=>∃i,d=.int i∧k (AA i) st'
def a73{k:Option Int->Sto->Prop}:bnd Z .non env st k=k AE st:=rfl
def L7{k:Option Int->Sto->Prop}(h:e.isNon=AG):bnd Z e env st k=wpE Z e env st λd st'=>∃i,d=.int i∧k (AA i) st':=by
 unfold bnd;rw[h];rfl
def a59{i:Int}{k:Option Int->Sto->Prop}:bnd Z (.int i) env st k=k (AA i) st:=by
 rw[L7 rfl,an5];exact propext ⟨λ⟨_,h,q⟩=>by cases h;exact q,λq=>⟨_,rfl,q⟩⟩
def bl6{lo hi:E}:wpE Z (.slw a lo hi) env st Q=wpE Z a env st λx st1=>bnd Z lo env st1 λl st2=>bnd Z hi env st2 λh st3=>ad3 x l h st3 Q:=rfl
def bu3{lo hi:E}:wpE Z (.sl a lo hi) env st Q=wpE Z a env st λx st1=>bnd Z lo env st1 λl st2=>bnd Z hi env st2 λh st3=>slR x l h st3 Q:=rfl
def be5{ks:List Str}{vs:Es}{k:E}:wpE Z (.dsel ks vs k) env st Q=o8 Z vs env st λds st1=>wpE Z k env st1 λx st2=>∃w d,x=.str w∧n8 (ks.zip ds) w=AA d∧Q d st2:=rfl
def bh9{k:E}:wpE Z (.gsel g k) env st Q=(Z.G g≠[]∧wpE Z k env st λx st1=>∃w d,x=.str w∧n8 (Z.G g) w=AA d∧Q d st1):=rfl
def bn9:wpE Z (.len a) env st Q=wpE Z a env st λx st1=>P3 x st1 Q:=rfl
def bo4:wpE Z (.abs a) env st Q=wpE Z a env st λx st1=>∃i,x=.int i∧Q (.int (if i<0 then -i else i)) st1:=rfl
def a96:wpE Z (.toInt a) env st Q=wpE Z a env st λx st1=>V9 x st1 Q:=rfl
def bl2:wpE Z (.sum a) env st Q=wpE Z a env st λx st1=>ac4 x st1 Q:=rfl
def bg7:wpE Z (.list a) env st Q=wpE Z a env st λx st1=>ab7 x st1 Q:=rfl
def a76:wpE Z (.tuple a) env st Q=wpE Z a env st λx st1=>Q5 x st1 Q:=rfl
def bp9:wpE Z (.max a b) env st Q=wpE Z a env st λx st1=>wpE Z b env st1 λy st2=>∃i j,x=.int i∧y=.int j∧Q (.int (if j>i then j else i)) st2:=rfl
def bi7:wpE Z (.call f es) env st Q=(Z.F f=AC∧o8 Z es env st λds st1=>Z.Phi f ds st1 Q):=rfl
def bt4:wpE Z (.gf f) env st Q=(Z.F f=AC∧Q (.fn f) st):=rfl
def a87:wpE Z (.callx c es) env st Q=wpE Z c env st λx st1=>∃f,x=.fn f∧Z.F f=AC∧o8 Z es env st1 λds st2=>Z.Phi f ds st2 Q:=rfl
def bh6{k d:E}:wpE Z (.gget g k d) env st Q=(Z.G g≠[]∧wpE Z k env st λx st1=>wpE Z d env st1 λy st2=>∃w,x=.str w∧Q ((n8 (Z.G g) w).getD y) st2):=rfl
def bm5:wpE Z (.fld a f) env st Q=wpE Z a env st λx st1=>∃p c fs d,x=.ref p∧st1 p=AA (.ins c fs)∧f∈Z.C c∧fs.lookup f=AA d∧Q d st1:=rfl
def bc3{m:Str}:wpE Z (.meth a m es) env st Q=wpE Z a env st λx st1=>∃p c fs,x=.ref p∧st1 p=AA (.ins c fs)∧fs.lookup m=AE∧Z.F (c7 c m)=AC∧o8 Z es env st1 λds st2=>Z.Phi (c7 c m) (.ref p::ds) st2 Q:=rfl
def ba9{c:Str}:wpE Z (.make c es) env st Q=(Z.MF (c7 c "__init__")=AC∧o8 Z es env st λds st1=>∀p,st1 p=AE->Z.Mk (c7 c "__init__") (.ref p::ds) (b0 st1 p (.ins c [])) λv st2=>v=.non∧Q (.ref p) st2):=rfl
def bg2{o:E}:wpS Z (.fldS o f v) F env st=wpE Z v env st λd st1=>wpE Z o env st1 λx st2=>∃p c fs,x=.ref p∧st2 p=AA (.ins c fs)∧f∈Z.C c∧fs.length<1000∧F.nx env (b0 st2 p (.ins c (j9 f d fs))):=rfl
def be8:wpS Z .dead F env st=False:=rfl
def a50:wpE Z (.callv i es) env st Q=∃x,env[i]?=AA (AA x)∧S7 Z (o8 Z es env) st Q x:=rfl
def bl7{ta:Sto->(List D->Sto->Prop)->Prop}:S7 Z ta st Q (.fn f)=(Z.F f=AC∧ta st λds st1=>Z.Phi f ds st1 Q):=rfl
def bc5{ta:Sto->(List D->Sto->Prop)->Prop}{b:Ss}{cs:List D}:S7 Z ta st Q (.clo np N b cs)=ta st λds st1=>Z.PhiC np N b cs ds st1 Q:=rfl
noncomputable def T9(env:i9):List Nat->(List D->Prop)->Prop
 |[],k=>k []
 |i::is,k=>∃d,env[i]?=AA (AA d)∧T9 env is λds=>k (d::ds)
def ay6{k:List D->Prop}:T9 env [] k=k []:=rfl
def ai5{is:List Nat}{k:List D->Prop}:T9 env (i::is) k=∃d,env[i]?=AA (AA d)∧T9 env is λds=>k (d::ds):=rfl
theorem ao8:∀{cp:List Nat}{k:List D->Prop},(∃cs,L3 env cp=AA cs∧k cs)=T9 env cp k
 |[],k=>propext ⟨λ⟨_,h,q⟩=>by cases h;exact q,λq=>⟨_,rfl,q⟩⟩
 |i::is,k=>by
  rw[ai5];refine propext ⟨λ⟨cs,h,q⟩=>?_,λ⟨d,hd,q⟩=>?_⟩
  ·unfold L3 at h
   split at h
   ·rename_i d ds h1 h2;cases h;exact⟨d,h1,(ao8 (k:=λds=>k (d::ds)))▸⟨ds,h2,q⟩⟩
   ·cases h
  ·rw[<-ao8]at q;obtain⟨ds,h2,q⟩:=q;exact⟨d::ds,by unfold L3;rw[hd,h2],q⟩
def bk1{cp:List Nat}{b:Ss}:wpS Z (.dfn i np N cp b) F env st=T9 env cp λcs=>F.nx (env.set i (AA (.clo np N b cs))) st:=ao8
def bs2:wpE Z (.gc g) env st Q=∃i,Z.Kc g=AA i∧Q (.int i) st:=rfl
def bk9{t:String}:wpE Z (.isT t a) env st Q=wpE Z a env st λx st1=>ab6 t x st1 Q:=rfl
def bn2:wpE Z (.app a b) env st Q=wpE Z a env st λx st1=>B7 x st1∧wpE Z b env st1 λy st2=>T8 x y st2 Q:=rfl
def bp1:wpE Z (.ext a b) env st Q=wpE Z a env st λx st1=>B7 x st1∧wpE Z b env st1 λy st2=>T6 x y st2 Q:=rfl
def a77:wpE Z (.popAt a b) env st Q=wpE Z a env st λx st1=>B7 x st1∧wpE Z b env st1 λy st2=>am5 x y st2 Q:=rfl
def bk0:wpE Z (.pop a) env st Q=wpE Z a env st λx st1=>X3 x st1 Q:=rfl
def a93{m:Str}:wpE Z (.methd a m es) env st Q=wpE Z a env st λx st1=>∃p c fs i,x=.ref p∧st1 p=AA (.ins c fs)∧fs.lookup m=AE∧Z.F (c7 c m)=AC∧A7 Z.C (c7 c m)=AA i∧o8 Z es env st1 λds st2=>Z.Phi (c7 c m) (.ref p::(ds++[.int i])) st2 Q:=rfl
def bc9:wpE Z (.denu a) env st Q=wpE Z a env st λx st1=>∃ds,x=.tup ds∧ds.length<=1000000∧∀p,st1 p=AE->Q (.ref p) (b0 st1 p (.dct (o7 0 ds))):=rfl
def bo6:wpE Z (.igt a b) env st Q=wpE Z a env st λx st1=>aq0 x st1∧wpE Z b env st1 λy st2=>aq3 x y st2 Q:=rfl
def bp3:wpE Z .dnt env st Q=(Z.C "!kt"≠[]∧∀p,st p=AE->Q (.ref p) (b0 st p (.dtt []))):=rfl
def bq3:wpE Z (.dgt a b) env st Q=wpE Z a env st λx st1=>ap8 x st1∧wpE Z b env st1 λy st2=>aq6 x y st2 Q:=rfl
def bn8{ne:Bool}:wpE Z (.din ne a b) env st Q=wpE Z a env st λx st1=>wpE Z b env st1 λy st2=>O9 ne x y st2 Q:=rfl
def bd9:wpE Z (.lrev a) env st Q=wpE Z a env st λx st1=>X6 x st1 Q:=rfl
def a97:wpE Z (.index a b) env st Q=wpE Z a env st λx st1=>X4 x st1∧wpE Z b env st1 λy st2=>N9 x y st2 Q:=rfl
def bf3{Q:List D->Sto->Prop}:o8 Z .nil env st Q=Q [] st:=rfl
def a91{r:Es}{Q:List D->Sto->Prop}:o8 Z (.cons e r) env st Q=wpE Z e env st λd st1=>o8 Z r env st1 λds st2=>Q (d::ds) st2:=rfl
noncomputable def C9(Z:Sg)(c:E):DB:=if c.isNon=AC then λ_ st Q=>Q AC st else λenv st Q=>wpE Z c env st λd st'=>∃b,d=.bl b∧Q b st'
def be7{Nc:List Str}{fr:List Nat}{k:Nat}{t:Tg}{it:It}:wpE Z (.comp Nc fr k t it c e) env st Q=z0 Z it env st λitems chk st1=>items.length<=1000000∧u6 chk t (C9 Z c) (λenv st Q=>wpE Z e env st Q) (λacc st'=>∀p,st' p=AE->Q (.ref p) (b0 st' p (.lst acc))) items [] (N7 fr k env) st1:=rfl
variable {k:ItK}
def bo2:z0 Z (.seq e) env st k=wpE Z e env st λd st1=>(∃ds,d=.tup ds∧k ds (λ_=>True) st1)∨(∃a ds,d=.ref a∧rdS st1 a ds∧k ds (λst'=>rdS st' a ds) st1):=rfl
def bp7:z0 Z (.rng a) env st k=wpE Z a env st λd st1=>∃j:Int,d=.int j∧(-(2^62)<=j∧j<2^62)∧k (t0 0 j.toNat) (λ_=>True) st1:=rfl
def bf7:z0 Z (.rng2 a b) env st k=wpE Z a env st λd st1=>wpE Z b env st1 λe st2=>∃i j:Int,d=.int i∧e=.int j∧(-(2^62)<=i∧i<2^62∧-(2^62)<=j∧j<2^62)∧k (t0 i (j-i).toNat) (λ_=>True) st2:=rfl
def bc7:z0 Z (.revt e) env st k=wpE Z e env st λd st1=>∃ds,d=.tup ds∧k ds.reverse (λ_=>True) st1:=rfl
def bc8:z0 Z (.enum e) env st k=wpE Z e env st λd st1=>(∃ds,d=.tup ds∧k (o6 0 ds) (λ_=>True) st1)∨(∃a ds,d=.ref a∧rdS st1 a ds∧k (o6 0 ds) (λst'=>rdS st' a ds) st1):=rfl
def bp8:z0 Z (.rev e) env st k=wpE Z e env st λd st1=>∃a ds,d=.ref a∧rdS st1 a ds∧k ds.reverse (λst'=>rdS st' a ds) st1:=rfl
end
end Ek
namespace Ek
open PySem L2
variable{i:Int}{lo hi:Option Int}{chk:Sto->Prop}{env:i9}
section
variable {st:Sto} {Q:DK} {j:Int} {a p:AI} {ds es xs ys:List D} {x y d:D}
def br0{a:D}{r:i9}{Q:D->Prop}:(∃d,(AA a::r)[0]?=AA (AA d)∧Q d)=Q a:=propext ⟨λ⟨_,h,q⟩=>by cases h;exact q,λq=>⟨a,rfl,q⟩⟩
def bu5{a:Option D}{r:i9}{i:Nat}{Q:D->Prop}:(∃d,(a::r)[i+1]?=AA (AA d)∧Q d)=∃d,r[i]?=AA (AA d)∧Q d:=by simp only[Go]
def bq8{a:D}{Q:D->Prop}:(∃d,AA (AA a)=AA (AA d)∧Q d)=Q a:=propext ⟨λ⟨_,h,q⟩=>by cases h;exact q,λq=>⟨a,rfl,q⟩⟩
def bk3{Q:Int->Prop}:(∃d,D.int i=.int d∧Q d)=Q i:=propext ⟨λ⟨_,h,q⟩=>by cases h;exact q,λq=>⟨i,rfl,q⟩⟩
def bs8{i:Bool}{Q:Bool->Prop}:(∃d,D.bl i=.bl d∧Q d)=Q i:=propext ⟨λ⟨_,h,q⟩=>by cases h;exact q,λq=>⟨i,rfl,q⟩⟩
def bl9{Q:List D->Prop}:(∃d,D.tup ds=.tup d∧Q d)=Q ds:=propext ⟨λ⟨_,h,q⟩=>by cases h;exact q,λq=>⟨_,rfl,q⟩⟩
def bf0{α:Type}{a:α}{Q:α->Prop}:(∃d,AA a=AA d∧Q d)=Q a:=propext ⟨λ⟨_,h,q⟩=>by cases h;exact q,λq=>⟨a,rfl,q⟩⟩
def bo7{i:Str}{l:List (Str×D)}{Q:D->Prop}:(∃w d,D.str i=.str w∧n8 l w=AA d∧Q d)=(∃d,n8 l i=AA d∧Q d):=propext ⟨λ⟨_,d,h,e,q⟩=>by cases h;exact⟨d,e,q⟩,λ⟨d,e,q⟩=>⟨_,d,rfl,e,q⟩⟩
def bg9{j:Int}{Q:Int->Int->Prop}:(∃a b,D.int i=.int a∧D.int j=.int b∧Q a b)=Q i j:=propext ⟨λ⟨_,_,h,h',q⟩=>by cases h;cases h';exact q,λq=>⟨_,_,rfl,rfl,q⟩⟩
def bf6:w8 .Add (.int i) (.int j) st Q=Q (.int (i+j)) st:=rfl
def bc6:w8 .Add (.tup xs) (.tup ys) st Q=(xs.length+ys.length<=sizeLine∧Q (.tup (xs++ys)) st):=rfl
def bb1:w8 .Sub (.int i) (.int j) st Q=Q (.int (i-j)) st:=rfl
def bh4:w8 .Mult (.int i) (.int j) st Q=(O8 i j∧Q (.int (i*j)) st):=rfl
def am8:w8 .Mod (.int i) (.int j) st Q=(0<j∧Q (.int (i % j)) st):=rfl
def bg3:w8 .FloorDiv (.int i) (.int j) st Q=(an6 i j∧Q (.int (i / j)) st):=rfl
def bh1:w8 .Pow (.int i) (.int j) st Q=(ap4 i j∧Q (.int (i^j.toNat)) st):=rfl
def ak2:deq (.int i) (.int j)=AB (i=j):=by
 unfold deq D.py Aq;exact GA.mpr (by simp)
def G7{x y:Str}:deq (.str x) (.str y)=AB (x=y):=by
 unfold deq D.py Aq;exact GA.mpr (by simp)
noncomputable def B5:List D->List D->Bool
 |[],[]=>AC
 |x::xs,y::ys=>deq x y&&B5 xs ys
 |_,_=>AG
theorem a62:∀xs ys:List D,Ci (D.pys xs) (D.pys ys)=B5 xs ys
 |[],[]=>rfl
 |[],_::_=>rfl
 |_::_,[]=>rfl
 |x::xs,y::ys=>by show(Aq x.py y.py&&Ci (D.pys xs) (D.pys ys))=_;rw[a62 xs ys];rfl
def Q4:deq (.tup xs) (.tup ys)=B5 xs ys:=by
 show Aq (.tuple (D.pys xs)) (.tuple (D.pys ys))=_;rw[Aq,a62]
def V5:l6 (.int i)=0:=rfl
def D7{x:Str}:l6 (.str x)=0:=rfl
def bm9:o0 .Eq (.int i) (.int j) st Q=Q (.bl (AB (i=j))) st:=by
 show(_∧_∧_∧_)=_;rw[ak2];exact propext ⟨λh=>h.2.2.2,λh=>⟨rfl,rfl,by rw[V5,V5];exact BU _,h⟩⟩
def ab3:o0 .NotEq (.int i) (.int j) st Q=Q (.bl (!decide (i=j))) st:=by
 show(_∧_∧_∧_)=_;rw[ak2];exact propext ⟨λh=>h.2.2.2,λh=>⟨rfl,rfl,by rw[V5,V5];exact BU _,h⟩⟩
def ab4{x y:String}:o0 .Eq (.str (Ab x)) (.str (Ab y)) st Q=Q (.bl (AB (x=y))) st:=by
 show(_∧_∧_∧_)=_;simp only[G7,t5];exact propext ⟨λh=>h.2.2.2,λh=>⟨D5 _,D5 _,by rw[D7,D7];exact BU _,h⟩⟩
def T3{x y:String}:o0 .NotEq (.str (Ab x)) (.str (Ab y)) st Q=Q (.bl (!decide (x=y))) st:=by
 show(_∧_∧_∧_)=_;simp only[G7,t5];exact propext ⟨λh=>h.2.2.2,λh=>⟨D5 _,D5 _,by rw[D7,D7];exact BU _,h⟩⟩
def W6:o0 .Eq x y st Q=(x.pure=AC∧y.pure=AC∧Dv (l6 x) (l6 y)<=150∧Q (.bl (deq x y)) st):=by cases x<;>cases y<;>rfl
def O4:o0 .NotEq x y st Q=(x.pure=AC∧y.pure=AC∧Dv (l6 x) (l6 y)<=150∧Q (.bl (!deq x y)) st):=by cases x<;>cases y<;>rfl
def bn4:o0 .Lt (.int i) (.int j) st Q=Q (.bl (AB (i<j))) st:=rfl
def bm6:o0 .LtE (.int i) (.int j) st Q=Q (.bl (AB (i<=j))) st:=rfl
def bk5:o0 .Gt (.int i) (.int j) st Q=Q (.bl (AB (j<i))) st:=rfl
def bo9:o0 .GtE (.int i) (.int j) st Q=Q (.bl (AB (j<=i))) st:=rfl
def ap9:o0 .In x (.tup ys) st Q=(x.pure=AC∧D.pures ys=AC∧l6 x<=150∧Q (.bl (ys.any λy=>deq y x)) st):=rfl
def aq8{ns:List Int}:o0 .In (.int i) (.ktup ns) st Q=Q (.bl (AB (i∈ns))) st:=rfl
def bo0:o0 .NotIn x (.tup ys) st Q=(x.pure=AC∧D.pures ys=AC∧l6 x<=150∧Q (.bl (!ys.any λy=>deq y x)) st):=rfl
def bt9:ixR (.tup ds) (.int i) st Q=∃d,atI ds i=AA d∧Q d st:=rfl
def c63:ixR (.ref a) (.int i) st Q=((∃ds d,rdS st a ds∧atI ds i=AA d∧Q d st)∨∃kvs d,st a=AA (.dct kvs)∧y0 kvs (.inl i)=AA d∧Q d st):=rfl
def cq3{kvs:List (Key×D)}(h:rdS st a ds)(h':st a=AA (.dct kvs)):False:=by rcases h with h|h<;>rw[h]at h'<;>cases h'
def ab0(h:rdS st a xs)(h':rdS st a ys):xs=ys:=by
 rcases h with h|h<;>rcases h' with h'|h'<;>rw[h]at h'<;>cases h'<;>rfl
def l5(h:rdS st a ds):ixR (.ref a) (.int i) st Q=∃d,atI ds i=AA d∧Q d st:=by
 rw[c63];exact propext ⟨λz=>z.elim (λ⟨es,d,r,q⟩=>by rw[ab0 h r];exact⟨d,q⟩) (λ⟨_,_,e,_⟩=>(cq3 h e).elim),λ⟨d,q⟩=>.inl ⟨ds,d,h,q⟩⟩
def M7:rdS (b0 st p (.lst ds)) p ds:=.inl c9
def bk6:ixR (.ref p) (.int i) (b0 st p (.lst ds)) Q=∃d,atI ds i=AA d∧Q d (b0 st p (.lst ds)):=l5 M7
def ac9{α:Type}{xs:List α}:atI xs 0=xs[0]?:=by
 unfold atI ixN;simp only[KP,if_true];split
 ·rfl
 ·rename_i h;rw[Bu (by lia)];rfl
def B1{α:Type}{xs:List α}{k:Nat}:atI xs (k:Int)=xs[k]?:=by
 unfold atI ixN;rw[if_pos (by lia)];split
 ·rw[Du];rfl
 ·rename_i h;rw[Bu (by lia)];rfl
def br9{α:Type}{xs:List α}:atI xs 1=xs[1]?:=B1 (k:=1)
def br7{α:Type}{xs:List α}:atI xs 2=xs[2]?:=B1 (k:=2)
def bt2{α:Type}{xs:List α}:atI xs 3=xs[3]?:=B1 (k:=3)
def bm8:ad3 (.tup ds) lo hi st Q=Q (.tup (z8 ds lo hi)) st:=rfl
def bt7:slR (.tup ds) lo hi st Q=(¬(HT.sIx ds.length 0 lo=0∧HT.sIx ds.length ds.length hi=ds.length)∧Q (.tup (z8 ds lo hi)) st):=rfl
def aq4(h:rdS st a ds):slR (.ref a) lo hi st Q=∀p,st p=AE->Q (.ref p) (b0 st p (.lst (z8 ds lo hi))):=by
 show(∃ds,rdS st a ds∧_)=_;exact propext ⟨λ⟨es,r,q⟩=>by rw[ab0 h r];exact q,λq=>⟨ds,h,q⟩⟩
def bl4:P3 (.tup ds) st Q=Q (.int ds.length) st:=rfl
def u0(h:rdS st a ds):P3 (.ref a) st Q=Q (.int ds.length) st:=by
 show(∃ds,rdS st a ds∧_)=_;exact propext ⟨λ⟨es,r,q⟩=>by rw[ab0 h r];exact q,λq=>⟨ds,h,q⟩⟩
def bb5:P3 (.ref p) (b0 st p (.lst ds)) Q=Q (.int ds.length) (b0 st p (.lst ds)):=u0 M7
def bo3{b:Bool}:V9 (.bl b) st Q=Q (.int (if b then 1 else 0)) st:=rfl
def bn5:V9 (.int i) st Q=Q (.int i) st:=rfl
def be1:ab7 (.tup ds) st Q=∀p,st p=AE->Q (.ref p) (b0 st p (.lst ds)):=rfl
def a54:Q5 (.tup ds) st Q=Q (.tup ds) st:=rfl
def ba2(h:rdS st a ds):Q5 (.ref a) st Q=Q (.tup ds) st:=by
 show(∃ds,rdS st a ds∧_)=_;exact propext ⟨λ⟨es,r,q⟩=>by rw[ab0 h r];exact q,λq=>⟨ds,h,q⟩⟩
def ax3:Q5 (.ref p) (b0 st p (.lst ds)) Q=Q (.tup ds) (b0 st p (.lst ds)):=ba2 M7
def cy1(h:rdS st a ds):a75 (.ref a) st Q=Q (.bl AC) st:=by
 show(∃ds,rdS st a ds∧_)=_;exact propext ⟨λ⟨es,r,q⟩=>q,λq=>⟨ds,h,q⟩⟩
def bf9:a75 (.ref p) (b0 st p (.lst ds)) Q=Q (.bl AC) (b0 st p (.lst ds)):=cy1 M7
def cw9{ns:List Int}(h:rdS st a (ns.map D.int))(q:Q (.int ns.sum) st):ac4 (.ref a) st Q:=⟨ns,h,q⟩
def v4(h:rdS st a ds):B7 (.ref a) st=True:=propext ⟨λ_=>trivial,λ_=>⟨ds,h⟩⟩
def ba3:B7 (.ref p) (b0 st p (.lst ds))=True:=v4 M7
def bi4:X4 (.tup ds) st=True:=rfl
def A4(h:st a=AA (.lst ds)):T8 (.ref a) d st Q=(ds.length<sizeLine∧Q .non (b0 st a (.lst (ds++[d])))):=by
 show(∃ds,st a=AA (.lst ds)∧_)=_;exact propext ⟨λ⟨es,r,q⟩=>by rw[h]at r;cases r;exact q,λq=>⟨ds,h,q⟩⟩
def bo8{b:AI}(h:st a=AA (.lst ds))(h':st b=AA (.lst es)):T6 (.ref a) (.ref b) st Q=(ds.length+es.length<=sizeLine∧Q .non (b0 st a (.lst (ds++es)))):=by
 show(∃ds es,st a=AA (.lst ds)∧st b=AA (.lst es)∧_)=_;exact propext ⟨λ⟨_,_,r,r',q⟩=>by rw[h]at r;rw[h']at r';cases r;cases r';exact q,λq=>⟨ds,es,h,h',q⟩⟩
def ci8{t:Tg}{tb:DS}{F:DEnds}:p7 chk t tb F [] env st=(chk st∧F.nx env st):=by rw[p7]
def cb4{t:Tg}{tb:DS}{F:DEnds}:p7 chk t tb F (d::ds) env st=(chk st∧J5 t d env λenv'=>tb {F with nx:=p7 chk t tb F ds,ct:=p7 chk t tb F ds,bk:=F.nx} env' st):=by rw[p7]
def bg5{k:Nat}{K:i9->Prop}:J5 (.n k) d env K=K (env.set k (AA d)):=rfl
def bg6{is:List Nat}{K:i9->Prop}:J5 (.tup is) (.tup ds) env K=(ds.length=is.length∧K (O0 env is ds)):=by
 show(∃es,D.tup ds=.tup es∧_)=_;exact propext ⟨λ⟨es,r,q⟩=>by cases r;exact q,λq=>⟨ds,rfl,q⟩⟩
def as7{k:Nat}{is:List Nat}:O0 env (k::is) (d::ds)=O0 (env.set k (AA d)) is ds:=rfl
def at5:O0 env [] []=env:=rfl
def b89{t:Tg}{tc:DB}{te:DT}{R:List D->Sto->Prop}{acc:List D}:u6 chk t tc te R [] acc env st=(chk st∧R acc st):=by rw[u6]
def b40{t:Tg}{tc:DB}{te:DT}{R:List D->Sto->Prop}{acc:List D}:u6 chk t tc te R (d::ds) acc env st=(chk st∧J5 t d env λenv'=>tc env' st λb st1=>if b=AC then te env' st1 λv st2=>u6 chk t tc te R ds (acc++[v]) env' st2 else u6 chk t tc te R ds acc env' st1):=by rw[u6]
def bj9{k:ItK}:((∃es,D.tup ds=.tup es∧k es (λ_=>True) st)∨(∃a es,D.tup ds=.ref a∧rdS st a es∧k es (λst'=>rdS st' a es) st))=k ds (λ_=>True) st:=
 propext ⟨(λh=>by
  rcases h with⟨es,r,q⟩|⟨a,es,r,_⟩
  ·cases r;exact q
  ·cases r),λq=>.inl ⟨ds,rfl,q⟩⟩
def bd7{k:ItK}:((∃es,D.tup ds=.tup es∧k (o6 0 es) (λ_=>True) st)∨(∃a es,D.tup ds=.ref a∧rdS st a es∧k (o6 0 es) (λst'=>rdS st' a es) st))=k (o6 0 ds) (λ_=>True) st:=
 propext ⟨(λh=>by
  rcases h with⟨es,r,q⟩|⟨a,es,r,_⟩
  ·cases r;exact q
  ·cases r),λq=>.inl ⟨ds,rfl,q⟩⟩
end
end Ek
namespace Ek
open PySem L2
theorem A9{chk:Sto->Prop}{t:Tg}{tb:DS}{F:DEnds}(I:List D->i9->Sto->Prop)(h0:∀env st,I [] env st->chk st∧F.nx env st)
  (h1:∀d ds env st,(∀env st,I ds env st->p7 chk t tb F ds env st)->I (d::ds) env st->chk st∧J5 t d env λenv'=>tb {F with nx:=p7 chk t tb F ds,ct:=p7 chk t tb F ds,bk:=F.nx} env' st):∀ds env st,I ds env st->p7 chk t tb F ds env st
 |[],env,st,h=>by rw[ci8];exact h0 env st h
 |d::ds,env,st,h=>by rw[cb4];exact h1 d ds env st (A9 I h0 h1 ds) h
theorem N5{chk:Sto->Prop}{t:Tg}{tc:DB}{te:DT}{R:List D->Sto->Prop}(I:List D->List D->i9->Sto->Prop)(h0:∀acc env st,I [] acc env st->chk st∧R acc st)
  (h1:∀d ds acc env st,(∀acc env st,I ds acc env st->u6 chk t tc te R ds acc env st)->I (d::ds) acc env st->chk st∧J5 t d env λenv'=>tc env' st λb st1=>if b=AC then te env' st1 λv st2=>u6 chk t tc te R ds (acc++[v]) env' st2 else u6 chk t tc te R ds acc env' st1):∀ds acc env st,I ds acc env st->u6 chk t tc te R ds acc env st
 |[],acc,env,st,h=>by rw[b89];exact h0 acc env st h
 |d::ds,acc,env,st,h=>by rw[b40];exact h1 d ds acc env st (N5 I h0 h1 ds) h
def a66{Z:Sg}{env:i9}{st:Sto}{K:Bool->Sto->Prop}:C9 Z .non env st K=K AC st:=rfl
def U9{Z:Sg}{c:E}{env:i9}{st:Sto}{K:Bool->Sto->Prop}(h:c.isNon=AG):C9 Z c env st K=wpE Z c env st λd st'=>∃b,d=.bl b∧K b st':=by unfold C9;rw[h];rfl
def aa9{i j:Int}(h:-(2^64)<j∧j<2^64):O8 i j:=.inl (.inr h)
def Q9{i j:Int}(h:-(2^64)<i∧i<2^64):O8 i j:=.inl (.inl h)
def E1{n:Nat}(h:n<=16000000):n<=sizeLine:=BF h (by decide)
def A0{n:Nat}(h:n<16000000):n<sizeLine:=Al h (by decide)
end Ek
namespace Ek
noncomputable def Ss.drop:Nat->Ss->Ss
 |0,s=>s
 |_+1,.nil=>.nil
 |k+1,.cons _ r=>Ss.drop k r
end Ek
namespace Ek
def bu4{ds:List D}{R:PySem.Addr->List D->Prop}:(∃a es,D.tup ds=.ref a∧R a es)=False:=propext ⟨λ⟨_,_,h,_⟩=>(by cases h),AZ⟩
def br3{a:PySem.Addr}{R:List D->Prop}:(∃es,D.ref a=.tup es∧R es)=False:=propext ⟨λ⟨_,h,_⟩=>(by cases h),AZ⟩
def br6{a:PySem.Addr}{R:PySem.Addr->List D->Prop}:(∃b es,D.ref a=.ref b∧R b es)=∃es,R a es:=propext ⟨λ⟨_,es,h,q⟩=>by cases h;exact⟨es,q⟩,λ⟨es,q⟩=>⟨a,es,rfl,q⟩⟩
end Ek
namespace Ek
open PySem L2
section
variable {Z:Sg} {env:i9} {st:Sto} {k:Option Int->Sto->Prop} {K:Bool->Sto->Prop} {a b:E}
def a70{o:Ec}:bnd Z (.bin o a b) env st k=wpE Z (.bin o a b) env st λd st'=>∃i,d=.int i∧k (AA i) st':=L7 rfl
def bm4{j:Nat}:bnd Z (.v j) env st k=wpE Z (.v j) env st λd st'=>∃i,d=.int i∧k (AA i) st':=L7 rfl
def az4{g:Str}:bnd Z (.gsel g a) env st k=wpE Z (.gsel g a) env st λd st'=>∃i,d=.int i∧k (AA i) st':=L7 rfl
def a83:bnd Z (.len a) env st k=wpE Z (.len a) env st λd st'=>∃i,d=.int i∧k (AA i) st':=L7 rfl
def a58:bnd Z (.neg a) env st k=wpE Z (.neg a) env st λd st'=>∃i,d=.int i∧k (AA i) st':=L7 rfl
def bi8:bnd Z (.ix a b) env st k=wpE Z (.ix a b) env st λd st'=>∃i,d=.int i∧k (AA i) st':=L7 rfl
def az3{f:Str}{es:Es}:bnd Z (.call f es) env st k=wpE Z (.call f es) env st λd st'=>∃i,d=.int i∧k (AA i) st':=L7 rfl
def a98{o:Dn}:C9 Z (.cmp o a b) env st K=wpE Z (.cmp o a b) env st λd st'=>∃b,d=.bl b∧K b st':=U9 rfl
def a07:C9 Z (.and a b) env st K=wpE Z (.and a b) env st λd st'=>∃b,d=.bl b∧K b st':=U9 rfl
def bi1:C9 Z (.or a b) env st K=wpE Z (.or a b) env st λd st'=>∃b,d=.bl b∧K b st':=U9 rfl
def a89:C9 Z (.not a) env st K=wpE Z (.not a) env st λd st'=>∃b,d=.bl b∧K b st':=U9 rfl
def a00{f:Str}{es:Es}:C9 Z (.call f es) env st K=wpE Z (.call f es) env st λd st'=>∃b,d=.bl b∧K b st':=U9 rfl
end
end Ek
namespace Ek
open PySem L2
def ch1{n d:Nat}:HT.sIx n d AE=d:=rfl
def cn6{n d k:Nat}:HT.sIx n d (AA (k:Int))=min k n:=by
 show(if(k:Int)<0 then((k:Int)+(n:Int)).toNat else min (k:Int).toNat n)=min k n;rw[if_neg (by lia),Du]
def cm6{ds:List D}{k:Nat}:z8 ds AE (AA (k:Int))=ds.take k:=by
 unfold z8;rw[ch1,cn6,Jx,Jw]
 by_cases h:k<=ds.length
 ·rw[Nat.min_eq_left h]
 ·rw[Nat.min_eq_right (by lia),DL (AU _),DL (by lia)]
end Ek
namespace Ek
open PySem L2
variable{st:Sto}{a:AI}{ds:List D}{Q:DK}
def cx7{es:List D}(h:st a=AA (.lst ds)):T6 (.ref a) (.tup es) st Q=(ds.length+es.length<=sizeLine∧Q .non (b0 st a (.lst (ds++es)))):=by
 show(∃ds,st a=AA (.lst ds)∧_)=_;exact propext ⟨λ⟨_,r,q⟩=>by rw[h]at r;cases r;exact q,λq=>⟨ds,h,q⟩⟩
def c42{t:String}{d:D}{ty:String}(h:tyD d st=AA ty)(q:Q (.bl (ty==t||(ty=="bool"&&t=="int"))) st):ab6 t d st Q:=.inl ⟨ty,h,q⟩
def a80{Z:Sg}{F:DEnds}{env:i9}{c:E}{b:Ss}:wpS Z (.while c b) F env st=∃n,v5 (wpT Z c) (f8 Z b) F n env st:=rfl
def ce1{Z:Sg}{e:E}{env:i9}{K:Bool->Sto->Prop}:wpT Z e env st K=wpE Z e env st λd st'=>∃b,d=.bl b∧K b st':=rfl
def b20{tc:DB}{tb:DS}{F:DEnds}(I:Nat->i9->Sto->Prop)(step:∀m env st(W:i9->Sto->Prop),I m env st->(∀m' env' st',m'<m->I m' env' st'->W env' st')->tc env st λb st1=>if b=AC then tb {F with nx:=W,ct:=W,bk:=F.nx} env st1 else F.nx env st1):∀m env st,I m env st->∃n,v5 tc tb F n env st:=by
 have main:∀k m env st,m<=k->I m env st->v5 tc tb F (k+1) env st:=by
  intro k
  induction k with
  |zero=>
   intro m env st hm hI;rw[v5];exact step m env st _ hI λm' env' st' hlt _=>by lia
  |succ k ih=>
   intro m env st hm hI;rw[v5];exact step m env st _ hI λm' env' st' hlt hI'=>ih m' env' st' (by lia) hI'
 exact λm env st hI=>⟨m+1,main m m env st (AU _) hI⟩
def W9{d:D}(h:st a=AA (.lst (ds++[d]))):X3 (.ref a) st Q=Q d (b0 st a (.lst ds)):=by
 show(∃ds d,st a=AA (.lst (ds++[d]))∧_)=_;refine propext ⟨λ⟨es,e,r,q⟩=>?_,λq=>⟨ds,d,h,q⟩⟩;rw[h]at r;simp only[Bo,Ob.lst.injEq]at r;obtain⟨r1,r2⟩:=List.append_inj' r rfl;cases r2;rw[r1];exact q
def c09(h:st a=AA (.lst ds)):X6 (.ref a) st Q=Q .non (b0 st a (.lst ds.reverse)):=by
 show(∃ds,st a=AA (.lst ds)∧_)=_;exact propext ⟨λ⟨_,r,q⟩=>by rw[h]at r;cases r;exact q,λq=>⟨ds,h,q⟩⟩
def bt0{f:Str}{Q:Str->Prop}:(∃g,AA (AA (D.fn f))=AA (AA (.fn g))∧Q g)=Q f:=propext ⟨λ⟨_,h,q⟩=>by cases h;exact q,λq=>⟨f,rfl,q⟩⟩
end Ek
namespace Ek
open PySem L2
variable{x:String}
section
variable {Z:Sg} {F:DEnds} {env:i9} {st:Sto} {Q:DK} {a b c e:D} {l:List D} {A B:Prop} {i:Nat} {s:S} {t u:Ss}
def ac2{n:Nat}{k:Int}(e:k=n)(h:l[n]?=AA a):ixR (.tup l) (.int k) st Q=Q a st:=by
 subst e;exact propext ⟨λ⟨_,h',q⟩=>by rw[B1,h]at h';cases h';exact q,λq=>⟨a,by rw[B1];exact h,q⟩⟩
def bs0:ixR (.tup (a::l)) (.int 0) st Q=Q a st:=ac2 (n:=0) rfl rfl
def bu2:ixR (.tup (b::a::l)) (.int 1) st Q=Q a st:=ac2 (n:=1) rfl rfl
def br1:ixR (.tup (b::c::a::l)) (.int 2) st Q=Q a st:=ac2 (n:=2) rfl rfl
def bs3:ixR (.tup (b::c::e::a::l)) (.int 3) st Q=Q a st:=ac2 (n:=3) rfl rfl
def bu6:(∃k,D.bl AC=.bl k∧if k=AC then A else B)=A:=propext ⟨λ⟨_,h,q⟩=>by cases h;exact q,λq=>⟨_,rfl,q⟩⟩
def bq7:(∃k,D.bl AG=.bl k∧if k=AC then A else B)=B:=propext ⟨λ⟨_,h,q⟩=>by cases h;exact q,λq=>⟨_,rfl,q⟩⟩
def bm3:o0 .Eq (.str (Ab x)) (.str (Ab x)) st Q=Q (.bl AC) st:=by rw[ab4,decide_eq_true rfl]
def ao3{y:String}(h:AB (x=y)=AG):o0 .Eq (.str (Ab x)) (.str (Ab y)) st Q=Q (.bl AG) st:=by rw[ab4,h]
def bp6:o0 .NotEq (.str (Ab x)) (.str (Ab x)) st Q=Q (.bl AG) st:=by rw[T3,decide_eq_true rfl];rfl
def bl5{y:String}(h:AB (x=y)=AG):o0 .NotEq (.str (Ab x)) (.str (Ab y)) st Q=Q (.bl AC) st:=by rw[T3,h];rfl
def bq9(h:wpS Z s ⟨f8 Z t F,F.rt,F.bk,F.ct⟩ env st):f8 Z (.cons s t) F env st:=h
def sk1{w s:String}(h:env[i]?=AA (AA (.str (Ab w))))(e:w≠s)(q:f8 Z t F env st):f8 Z (.cons (.iff (.cmp .Eq (.v i) (.str (Ab s))) u .nil) t) F env st:=by
 refine⟨_,h,?_⟩;simp only[an7];rw[ao3 (decide_eq_false e)];exact⟨_,rfl,q⟩
def skN{d:D}(h:env[i]?=AA (AA d))(e:d≠.non)(q:f8 Z t F env st):f8 Z (.cons (.iff (.isN (.v i)) u .nil) t) F env st:=
 ⟨_,h,.inr ⟨e,AG,rfl,q⟩⟩
end
end Ek
namespace Ek
open PySem L2
variable{m:Nat}
inductive Kd where
 |non|one|eith (a b:Kd)|both (a b:Kd)|way (a b:Kd)
 deriving DecidableEq
noncomputable def Kd.d:Kd->D
 |.non=>.tup [.str "none"]
 |.one=>.tup [.str "one"]
 |.eith a b=>.tup [.str "either",a.d,b.d]
 |.both a b=>.tup [.str "both",a.d,b.d]
 |.way a b=>.tup [.str "way",a.d,b.d]
noncomputable def Kd.cnt:Kd->Nat
 |.non=>0|.one=>1
 |.eith a b=>a.cnt+b.cnt
 |.both a b=>a.cnt*b.cnt
 |.way a b=>b.cnt^a.cnt
noncomputable def Kd.nest:Kd->Nat
 |.non=>0|.one=>0
 |.eith a b=>1+max a.nest b.nest
 |.both a b=>1+max a.nest b.nest
 |.way a b=>1+max a.nest b.nest
noncomputable def Kd.bd(m:Nat):Kd->Prop
 |.non=>True|.one=>1<=m
 |.eith a b=>a.bd m∧b.bd m∧a.cnt+b.cnt<=m
 |.both a b=>a.bd m∧b.bd m∧a.cnt*b.cnt<=m
 |.way a b=>a.bd m∧b.bd m∧b.cnt^a.cnt<=m
def Kd.bd_le:∀{k:Kd},k.bd m->k.cnt<=m
 |.non,_=>BU _
 |.one,h=>h
 |.eith _ _,h=>h.2.2
 |.both _ _,h=>h.2.2
 |.way _ _,h=>h.2.2
theorem Kd.bd_mono{m':Nat}(hm:m<=m'):∀{k:Kd},k.bd m->k.bd m'
 |.non,_=>trivial
 |.one,h=>BF h hm
 |.eith _ _,h=>⟨bd_mono hm h.1,bd_mono hm h.2.1,BF h.2.2 hm⟩
 |.both _ _,h=>⟨bd_mono hm h.1,bd_mono hm h.2.1,BF h.2.2 hm⟩
 |.way _ _,h=>⟨bd_mono hm h.1,bd_mono hm h.2.1,BF h.2.2 hm⟩
def W7{k:Kd}(h:k.bd m):∀a b,k=.eith a b∨k=.both a b∨k=.way a b->a.bd m∧b.bd m:=λa b e=>by
 rcases e with e|e|e<;>(subst e;exact⟨h.1,h.2.1⟩)
noncomputable def Kd.good:Kd->Prop
 |.non=>False|.one=>True
 |.eith a b=>(a.good∧b.good)∨(a=.non∧b.good)∨(a.good∧b=.non)
 |.both a b=>a.good∧b.good
 |.way a b=>(a.good∨a=.non)∧b.good∧a.cnt<=6
theorem Kd.good_pos:∀{k:Kd},k.good->0<k.cnt
 |.one,_=>Nat.one_pos
 |.eith a b,h=>by
  show 0<a.cnt+b.cnt
  rcases h with h|h|h
  ·have:=good_pos h.1;lia
  ·have:=good_pos h.2;lia
  ·have:=good_pos h.1;lia
 |.both a b,h=>Nat.mul_pos (good_pos h.1) (good_pos h.2)
 |.way a b,h=>pow_pos (good_pos h.2.1)
def E9:∀a b:Kd,deq a.d b.d=AB (a=b):=by
 intro a
 induction a with
 |non=>intro b;cases b<;>simp[Kd.d,Q4,B5,G7,t5]
 |one=>intro b;cases b<;>simp[Kd.d,Q4,B5,G7,t5]
 |eith a c iha ihc=>intro b;cases b<;>simp[Kd.d,Q4,B5,G7,t5,iha,ihc]
 |both a c iha ihc=>intro b;cases b<;>simp[Kd.d,Q4,B5,G7,t5,iha,ihc]
 |way a c iha ihc=>intro b;cases b<;>simp[Kd.d,Q4,B5,G7,t5,iha,ihc]
def N4{d:D}{r:List D}:D.pures (d::r)=(d.pure&&D.pures r):=rfl
def P8:D.pures []=AC:=rfl
def U6{r:List D}:(D.tup r).pure=D.pures r:=rfl
theorem t9:∀k:Kd,k.d.pure=AC
 |.non=>by simp only[Kd.d,U6,N4,P8,D5,DN]
 |.one=>by simp only[Kd.d,U6,N4,P8,D5,DN]
 |.eith a b=>by simp only[Kd.d,U6,N4,P8,D5,t9 a,t9 b,DN]
 |.both a b=>by simp only[Kd.d,U6,N4,P8,D5,t9 a,t9 b,DN]
 |.way a b=>by simp only[Kd.d,U6,N4,P8,D5,t9 a,t9 b,DN]
theorem ai4:∀l:List Kd,D.pures (l.map Kd.d)=AC
 |[]=>rfl
 |k::r=>by rw[Aa,N4,t9,ai4 r];rfl
noncomputable def C5:List D->Nat
 |[]=>0
 |d::r=>max (l6 d) (C5 r)
theorem ay9:∀l:List D,CK (D.pys l)=C5 l
 |[]=>rfl
 |d::r=>by show max (FE d.py) (CK (D.pys r))=_;rw[ay9 r];rfl
def M2{l:List D}:l6 (.tup l)=C5 l+1:=by
 show FE (.tuple (D.pys l))=_;rw[FE,ay9]
theorem z9:∀k:Kd,l6 k.d=k.nest+1
 |.non=>by simp only[Kd.d,M2,C5,D7,Kd.nest];rfl
 |.one=>by simp only[Kd.d,M2,C5,D7,Kd.nest];rfl
 |.eith a b=>by simp only[Kd.d,M2,C5,D7,Kd.nest,z9 a,z9 b,Ks];lia
 |.both a b=>by simp only[Kd.d,M2,C5,D7,Kd.nest,z9 a,z9 b,Ks];lia
 |.way a b=>by simp only[Kd.d,M2,C5,D7,Kd.nest,z9 a,z9 b,Ks];lia
inductive Pg where
 |name (n:Nat)|star|pair (t u:Pg)|first (t:Pg)|second (t:Pg)|left (b:Kd) (t:Pg)|right (a:Kd) (t:Pg)
 |case (t u v:Pg)|way (a:Kd) (t:Pg)|give (t u:Pg)|lets (t u:Pg)|never (k:Kd) (t:Pg)
 deriving DecidableEq
noncomputable def Pg.d:Pg->D
 |.name n=>.tup [.str "name",.int n]
 |.star=>.tup [.str "star"]
 |.pair t u=>.tup [.str "pair",t.d,u.d]
 |.first t=>.tup [.str "first",t.d]
 |.second t=>.tup [.str "second",t.d]
 |.left b t=>.tup [.str "left",b.d,t.d]
 |.right a t=>.tup [.str "right",a.d,t.d]
 |.case t u v=>.tup [.str "case",t.d,u.d,v.d]
 |.way a t=>.tup [.str "way",a.d,t.d]
 |.give t u=>.tup [.str "give",t.d,u.d]
 |.lets t u=>.tup [.str "let",t.d,u.d]
 |.never k t=>.tup [.str "never",k.d,t.d]
noncomputable def Pg.kind(Γ:List Kd):Pg->Option Kd
 |.name n=>Γ[n]?
 |.star=>AA .one
 |.pair t u=>match t.kind Γ,u.kind Γ with
  |some a,AA b=>AA (.both a b)
  |_,_=>AE
 |.first t=>match t.kind Γ with
  |some (.both a _)=>AA a
  |_=>AE
 |.second t=>match t.kind Γ with
  |some (.both _ b)=>AA b
  |_=>AE
 |.left b t=>match t.kind Γ with
  |some a=>AA (.eith a b)
  |_=>AE
 |.right a t=>match t.kind Γ with
  |some b=>AA (.eith a b)
  |_=>AE
 |.case t u v=>match t.kind Γ with
  |some (.eith a b)=>match u.kind (a::Γ),v.kind (b::Γ)with
   |some k,AA l=>if k=l then AA k else AE
   |_,_=>AE
  |_=>AE
 |.way a t=>match t.kind (a::Γ)with
  |some b=>AA (.way a b)
  |_=>AE
 |.give t u=>match t.kind Γ,u.kind Γ with
  |some (.way a b),AA c=>if a=c then AA b else AE
  |_,_=>AE
 |.lets t u=>match t.kind Γ with
  |some a=>u.kind (a::Γ)
  |_=>AE
 |.never k t=>match t.kind Γ with
  |some .non=>AA k
  |_=>AE
noncomputable def Pg.kids:Pg->List Pg
 |.name _=>[]|.star=>[]
 |.pair t u=>[t,u]|.first t=>[t]|.second t=>[t]|.left _ t=>[t]|.right _ t=>[t]
 |.case t u v=>[t,u,v]|.way _ t=>[t]|.give t u=>[t,u]|.lets t u=>[t,u]|.never _ t=>[t]
noncomputable def Pg.hgt:Pg->Nat
 |.name _=>1|.star=>1
 |.pair t u=>1+max t.hgt u.hgt|.first t=>1+t.hgt|.second t=>1+t.hgt|.left _ t=>1+t.hgt|.right _ t=>1+t.hgt
 |.case t u v=>1+max t.hgt (max u.hgt v.hgt)|.way _ t=>1+t.hgt|.give t u=>1+max t.hgt u.hgt|.lets t u=>1+max t.hgt u.hgt|.never _ t=>1+t.hgt
noncomputable def Pg.parts:Pg->Nat
 |.name _=>1|.star=>1
 |.pair t u=>1+t.parts+u.parts|.first t=>1+t.parts|.second t=>1+t.parts|.left _ t=>1+t.parts|.right _ t=>1+t.parts
 |.case t u v=>1+t.parts+u.parts+v.parts|.way _ t=>1+t.parts|.give t u=>1+t.parts+u.parts|.lets t u=>1+t.parts+u.parts|.never _ t=>1+t.parts
noncomputable def Pg.kn(m:Nat):Pg->Prop
 |.name _=>True|.star=>True
 |.pair t u=>t.kn m∧u.kn m|.first t=>t.kn m|.second t=>t.kn m|.left b t=>b.nest<=m∧t.kn m|.right a t=>a.nest<=m∧t.kn m
 |.case t u v=>t.kn m∧u.kn m∧v.kn m|.way a t=>a.nest<=m∧t.kn m|.give t u=>t.kn m∧u.kn m|.lets t u=>t.kn m∧u.kn m|.never k t=>k.nest<=m∧t.kn m
inductive Kn:List Kd->Pg->Kd->Prop
 |name {Γ n k}:Γ[n]?=AA k->Kn Γ (.name n) k
 |star {Γ}:Kn Γ .star .one
 |pair {Γ t u a b}:Kn Γ t a->Kn Γ u b->Kn Γ (.pair t u) (.both a b)
 |first {Γ t a b}:Kn Γ t (.both a b)->Kn Γ (.first t) a
 |second {Γ t a b}:Kn Γ t (.both a b)->Kn Γ (.second t) b
 |left {Γ t a b}:Kn Γ t a->Kn Γ (.left b t) (.eith a b)
 |right {Γ t a b}:Kn Γ t b->Kn Γ (.right a t) (.eith a b)
 |case {Γ t u v a b c}:Kn Γ t (.eith a b)->Kn (a::Γ) u c->Kn (b::Γ) v c->Kn Γ (.case t u v) c
 |way {Γ t a b}:Kn (a::Γ) t b->Kn Γ (.way a t) (.way a b)
 |give {Γ t u a b}:Kn Γ t (.way a b)->Kn Γ u a->Kn Γ (.give t u) b
 |lets {Γ t u a b}:Kn Γ t a->Kn (a::Γ) u b->Kn Γ (.lets t u) b
 |never {Γ t b}:Kn Γ t .non->Kn Γ (.never b t) b
theorem Kn.kind{Γ:List Kd}{p:Pg}{k:Kd}(h:Kn Γ p k):p.kind Γ=AA k:=by
 induction h with
 |name h=>exact h
 |star=>rfl
 |pair _ _ i j=>unfold Pg.kind;rw[i,j]
 |give _ _ i j=>unfold Pg.kind;rw[i,j];exact if_pos rfl
 |first _ i|second _ i|left _ i|right _ i|way _ i|never _ i=>unfold Pg.kind;rw[i]
 |lets _ _ i j=>unfold Pg.kind;rw[i];exact j
 |case _ _ _ i j l=>unfold Pg.kind;rw[i];show(match Pg.kind _ _,Pg.kind _ _ with|some k,AA l=>if k=l then AA k else AE|_,_=>AE)=_;rw[j,l];exact if_pos rfl
def bl8:∀{p:Pg}{Γ:List Kd}{k:Kd},p.kind Γ=AA k->Kn Γ p k:=by
 intro p
 induction p with
 |name n=>exact λh=>.name h
 |star=>intro Γ k h;cases h;exact .star
 |pair t u i j=>
  intro Γ k h;unfold Pg.kind at h;cases e:t.kind Γ with
  |none=>rw[e]at h;cases h
  |some a=>cases f:u.kind Γ with
   |none=>rw[e,f]at h;cases h
   |some b=>rw[e,f]at h;cases h;exact .pair (i e) (j f)
 |first t i=>
  intro Γ k h;unfold Pg.kind at h;cases e:t.kind Γ with
  |none=>rw[e]at h;cases h
  |some a=>rw[e]at h;cases a<;>cases h;exact .first (i e)
 |second t i=>
  intro Γ k h;unfold Pg.kind at h;cases e:t.kind Γ with
  |none=>rw[e]at h;cases h
  |some a=>rw[e]at h;cases a<;>cases h;exact .second (i e)
 |left b t i=>
  intro Γ k h;unfold Pg.kind at h;cases e:t.kind Γ with
  |none=>rw[e]at h;cases h
  |some a=>rw[e]at h;cases h;exact .left (i e)
 |right b t i=>
  intro Γ k h;unfold Pg.kind at h;cases e:t.kind Γ with
  |none=>rw[e]at h;cases h
  |some a=>rw[e]at h;cases h;exact .right (i e)
 |case t u v i j l=>
  intro Γ k h;unfold Pg.kind at h;cases e:t.kind Γ with
  |none=>rw[e]at h;cases h
  |some a=>
   rw[e]at h;cases a<;>first|cases h;done|skip
   rename_i a b;replace h:(match u.kind (a::Γ),v.kind (b::Γ)with|some k,AA l=>if k=l then AA k else AE|_,_=>AE)=AA k:=h;cases f:u.kind (a::Γ)with
   |none=>rw[f]at h;cases h
   |some c=>cases g:v.kind (b::Γ)with
    |none=>rw[f,g]at h;cases h
    |some d=>
     rw[f,g]at h
     by_cases z:c=d
     ·cases(if_pos z).symm.trans h;cases z;exact .case (i e) (j f) (l g)
     ·cases(if_neg z).symm.trans h
 |way a t i=>
  intro Γ k h;unfold Pg.kind at h;cases e:t.kind (a::Γ)with
  |none=>rw[e]at h;cases h
  |some a=>rw[e]at h;cases h;exact .way (i e)
 |give t u i j=>
  intro Γ k h;unfold Pg.kind at h;cases e:t.kind Γ with
  |none=>rw[e]at h;cases h
  |some a=>cases f:u.kind Γ with
   |none=>rw[e,f]at h;cases a<;>cases h
   |some c=>
    rw[e,f]at h;cases a<;>first|cases h;done|skip
    rename_i a b
    by_cases z:a=c
    ·cases(if_pos z).symm.trans h;cases z;exact .give (i e) (j f)
    ·cases(if_neg z).symm.trans h
 |lets t u i j=>
  intro Γ k h;unfold Pg.kind at h;cases e:t.kind Γ with
  |none=>rw[e]at h;cases h
  |some a=>rw[e]at h;exact .lets (i e) (j h)
 |never b t i=>
  intro Γ k h;unfold Pg.kind at h;cases e:t.kind Γ with
  |none=>rw[e]at h;cases h
  |some a=>rw[e]at h;cases a<;>cases h;exact .never (i e)
def bi2{Δ Γ:List Kd}{p:Pg}{k:Kd}(h:Kn Γ p k):Kn (Γ++Δ) p k:=by
 induction h with
 |name h=>exact .name (by rw[Ad (AR.mp h).1];exact h)
 |star=>exact .star
 |pair _ _ i j=>exact .pair i j
 |first _ i=>exact .first i
 |second _ i=>exact .second i
 |left _ i=>exact .left i
 |right _ i=>exact .right i
 |case _ _ _ i j l=>exact .case i j l
 |way _ i=>exact .way i
 |give _ _ i j=>exact .give i j
 |lets _ _ i j=>exact .lets i j
 |never _ i=>exact .never i
end Ek
namespace Ek
open PySem
noncomputable def ag5:Def:=⟨2,["_law_cell","_law_k","_law_number"],
 (.cons (.set 2 (.bin .Mod (.bin .Add (.bin .Add (.bin .Mult (.bin .Mod (.v 0) (.int 2147483629)) (.int 48271)) (.bin .Mult (.int 7919) (.v 1))) (.int 13)) (.int 2147483629)))
 (.cons (.set 2 (.bin .Mod (.bin .Add (.bin .Mult (.v 2) (.bin .Add (.bin .FloorDiv (.v 2) (.int 5)) (.v 1))) (.bin .Mult (.int 16807) (.v 1))) (.int 2147483587)))
 (.cons (.ret (.bin .Mod (.bin .Add (.bin .Mult (.v 2) (.int 69621)) (.bin .FloorDiv (.v 2) (.int 127))) (.int 2147483647)))
 .nil)))⟩
noncomputable def E8:Def:=⟨1,["_law_script","_law_deck_here","_law_k","_law_cell","_law_number","_law_turn"],
 (.cons (.set 1 (.lst .nil))
 (.cons (.for (.tup [2,3]) (.enum (.sl (.v 0) .non (.int 63)))
   (.cons (.set 4 (.bin .Mod (.abs (.v 3)) (.bin .Pow (.int 2147483647) (.int 60))))
  (.cons (.iff (.cmp .Lt (.v 4) (.bin .Pow (.int 10) (.int 18)))
    (.cons (.ex (.ext (.v 1) (.comp ["_law_number","_law_k","_law_j"] [4,2] 1 (.n 2) (.rng (.int 7)) .non (.call "_law_mixed" (.cons (.v 0) (.cons (.bin .Add (.bin .Mult (.int 7) (.v 1)) (.v 2)) .nil))))))
   (.cons (.set 4 (.int 0))
   .nil))
    .nil)
  (.cons (.for (.n 5) (.rng (.int 60))
    (.cons (.iff (.cmp .Gt (.v 4) (.int 0))
     (.cons (.ex (.app (.v 1) (.bin .Mod (.v 4) (.int 2147483647))))
    (.cons (.set 4 (.bin .FloorDiv (.v 4) (.int 2147483647)))
    .nil))
     .nil)
   .nil))
  .nil))))
 (.cons (.for (.n 2) (.rng2 (.len (.v 1)) (.int 150))
   (.cons (.ex (.app (.v 1) (.call "_law_mixed" (.cons (.sum (.sl (.v 0) .non (.int 63))) (.cons (.v 2) .nil)))))
  .nil))
 (.cons (.ret (.sl (.v 1) .non (.int 900)))
 .nil))))⟩
noncomputable def ah2:Def:=⟨2,["_law_deck_here","_law_many"],
 (.cons (.iff (.cmp .Eq (.len (.v 0)) (.int 0))
   (.cons (.ret (.int 0))
  .nil)
   .nil)
 (.cons (.ret (.bin .Mod (.popAt (.v 0) (.int 0)) (.v 1)))
 .nil))⟩
noncomputable def ah1:Def:=⟨2,["_law_number","_law_times","_law_found","_law_turn"],
 (.cons (.set 2 (.int 1))
 (.cons (.for (.n 3) (.rng (.v 1))
   (.cons (.set 2 (.bin .Mult (.v 2) (.v 0)))
  .nil))
 (.cons (.ret (.v 2))
 .nil)))⟩
noncomputable def X8:Def:=⟨1,["_law_kind_here","_law_one","_law_other"],
 (.cons (.iff (.cmp .Eq (.len (.v 0)) (.int 1))
   (.cons (.ret (.toInt (.cmp .Eq (.ix (.v 0) (.int 0)) (.str "one"))))
  .nil)
   .nil)
 (.cons (.set 1 (.call "_law_count" (.cons (.ix (.v 0) (.int 1)) .nil)))
 (.cons (.set 2 (.call "_law_count" (.cons (.ix (.v 0) (.int 2)) .nil)))
 (.cons (.ret (.dsel ["either","both","way"] (.cons (.bin .Add (.v 1) (.v 2)) (.cons (.bin .Mult (.v 1) (.v 2)) (.cons (.call "_law_power" (.cons (.v 2) (.cons (.v 1) .nil))) .nil))) (.ix (.v 0) (.int 0))))
 .nil))))⟩
noncomputable def G4:Def:=⟨3,["_law_deck_here","_law_deep","_law_most","_law_way","_law_word","_law_one","_law_other"],
 (.cons (.set 3 (.call "_law_next" (.cons (.v 0) (.cons (.ix (.lst (.cons (.int 1) (.cons (.int 6) .nil))) (.toInt (.cmp .Gt (.v 1) (.int 0)))) .nil))))
 (.cons (.iff (.or (.cmp .Eq (.v 3) (.int 0)) (.cmp .Eq (.v 3) (.int 5)))
   (.cons (.ret (.ix (.lst (.cons (.tup (.cons (.str "one") .nil)) (.cons (.tup (.cons (.str "either") (.cons (.tup (.cons (.str "one") .nil)) (.cons (.tup (.cons (.str "one") .nil)) .nil)))) .nil))) (.toInt (.and (.cmp .Eq (.v 3) (.int 5)) (.cmp .Gt (.v 2) (.int 1))))))
  .nil)
   .nil)
 (.cons (.set 4 (.ix (.lst (.cons (.str "either") (.cons (.str "both") (.cons (.str "way") (.cons (.str "either") .nil))))) (.bin .Sub (.v 3) (.int 1))))
 (.cons (.set 5 (.call "_law_kind" (.cons (.v 0) (.cons (.bin .Sub (.v 1) (.int 1)) (.cons (.v 2) .nil)))))
 (.cons (.set 6 (.call "_law_kind" (.cons (.v 0) (.cons (.bin .Sub (.v 1) (.int 1)) (.cons (.v 2) .nil)))))
 (.cons (.iff (.and (.cmp .NotEq (.v 4) (.str "both")) (.cmp .Eq (.call "_law_next" (.cons (.v 0) (.cons (.int 6) .nil))) (.int 1)))
   (.cons (.set 5 (.tup (.cons (.str "none") .nil)))
  .nil)
   (.cons (.iff (.and (.cmp .Eq (.v 4) (.str "either")) (.cmp .Eq (.call "_law_next" (.cons (.v 0) (.cons (.int 6) .nil))) (.int 1)))
    (.cons (.set 6 (.tup (.cons (.str "none") .nil)))
   .nil)
    .nil)
  .nil))
 (.cons (.iff (.and (.cmp .Eq (.v 4) (.str "way")) (.cmp .Gt (.call "_law_count" (.cons (.v 5) .nil)) (.int 6)))
   (.cons (.set 5 (.tup (.cons (.str "one") .nil)))
  .nil)
   .nil)
 (.cons (.iff (.cmp .Gt (.call "_law_count" (.cons (.tup (.cons (.v 4) (.cons (.v 5) (.cons (.v 6) .nil)))) .nil)) (.v 2))
   (.cons (.ret (.tup (.cons (.str "one") .nil)))
  .nil)
   .nil)
 (.cons (.ret (.tup (.cons (.v 4) (.cons (.v 5) (.cons (.v 6) .nil)))))
 .nil)))))))))⟩
noncomputable def P5:Def:=⟨2,["_law_kind_here","_law_names_here","_law_word","_law_body"],
 (.cons (.set 2 (.ix (.v 0) (.int 0)))
 (.cons (.iff (.cmp .Eq (.v 2) (.str "none"))
   (.cons (.ret (.tup (.cons (.str "name") (.cons (.index (.v 1) (.v 0)) .nil))))
  .nil)
   .nil)
 (.cons (.iff (.cmp .Eq (.v 2) (.str "one"))
   (.cons (.ret (.tup (.cons (.str "star") .nil)))
  .nil)
   .nil)
 (.cons (.iff (.cmp .Eq (.v 2) (.str "both"))
   (.cons (.ret (.tup (.cons (.str "pair") (.cons (.call "_law_least" (.cons (.ix (.v 0) (.int 1)) (.cons (.v 1) .nil))) (.cons (.call "_law_least" (.cons (.ix (.v 0) (.int 2)) (.cons (.v 1) .nil))) .nil)))))
  .nil)
   .nil)
 (.cons (.iff (.cmp .Eq (.v 2) (.str "way"))
   (.cons (.set 3 (.bin .Add (.tup (.cons (.ix (.v 0) (.int 1)) .nil)) (.v 1)))
  (.cons (.ret (.tup (.cons (.str "way") (.cons (.ix (.v 0) (.int 1)) (.cons (.call "_law_least" (.cons (.ix (.v 0) (.int 2)) (.cons (.v 3) .nil))) .nil)))))
  .nil))
   .nil)
 (.cons (.iff (.cmp .Gt (.call "_law_count" (.cons (.ix (.v 0) (.int 1)) .nil)) (.int 0))
   (.cons (.ret (.tup (.cons (.str "left") (.cons (.ix (.v 0) (.int 2)) (.cons (.call "_law_least" (.cons (.ix (.v 0) (.int 1)) (.cons (.v 1) .nil))) .nil)))))
  .nil)
   .nil)
 (.cons (.ret (.tup (.cons (.str "right") (.cons (.ix (.v 0) (.int 1)) (.cons (.call "_law_least" (.cons (.ix (.v 0) (.int 2)) (.cons (.v 1) .nil))) .nil)))))
 .nil)))))))⟩
noncomputable def L5:Def:=⟨5,["_law_deck_here","_law_kind_here","_law_names_here","_law_room","_law_deep","_law_word","_law_one","_law_side","_law_body"],
 (.cons (.set 5 (.ix (.v 1) (.int 0)))
 (.cons (.iff (.or (.cmp .Eq (.v 5) (.str "none")) (.cmp .Eq (.v 5) (.str "one")))
   (.cons (.ret (.call "_law_least" (.cons (.v 1) (.cons (.v 2) .nil))))
  .nil)
   .nil)
 (.cons (.iff (.cmp .Eq (.v 5) (.str "both"))
   (.cons (.set 6 (.call "_law_grown" (.cons (.v 0) (.cons (.ix (.v 1) (.int 1)) (.cons (.v 2) (.cons (.v 3) (.cons (.bin .Sub (.v 4) (.int 1)) .nil)))))))
  (.cons (.ret (.tup (.cons (.str "pair") (.cons (.v 6) (.cons (.call "_law_grown" (.cons (.v 0) (.cons (.ix (.v 1) (.int 2)) (.cons (.v 2) (.cons (.v 3) (.cons (.bin .Sub (.v 4) (.int 1)) .nil)))))) .nil)))))
  .nil))
   .nil)
 (.cons (.iff (.cmp .Eq (.v 5) (.str "way"))
   (.cons (.ret (.tup (.cons (.str "way") (.cons (.ix (.v 1) (.int 1)) (.cons (.call "_law_grown" (.cons (.v 0) (.cons (.ix (.v 1) (.int 2)) (.cons (.bin .Add (.tup (.cons (.ix (.v 1) (.int 1)) .nil)) (.v 2)) (.cons (.v 3) (.cons (.bin .Sub (.v 4) (.int 1)) .nil)))))) .nil)))))
  .nil)
   .nil)
 (.cons (.set 7 (.call "_law_next" (.cons (.v 0) (.cons (.int 2) .nil))))
 (.cons (.iff (.cmp .Eq (.call "_law_count" (.cons (.ix (.v 1) (.bin .Add (.int 1) (.v 7))) .nil)) (.int 0))
   (.cons (.set 7 (.bin .Sub (.int 1) (.v 7)))
  .nil)
   .nil)
 (.cons (.set 8 (.call "_law_grown" (.cons (.v 0) (.cons (.ix (.v 1) (.bin .Add (.int 1) (.v 7))) (.cons (.v 2) (.cons (.v 3) (.cons (.bin .Sub (.v 4) (.int 1)) .nil)))))))
 (.cons (.ret (.tup (.cons (.ix (.lst (.cons (.str "left") (.cons (.str "right") .nil))) (.v 7)) (.cons (.ix (.v 1) (.bin .Sub (.int 2) (.v 7))) (.cons (.v 8) .nil)))))
 .nil))))))))⟩
noncomputable def Y0:Def:=⟨1,["_law_kind_here"],
 (.cons (.iff (.cmp .Eq (.len (.v 0)) (.int 1))
   (.cons (.ret (.int 0))
  .nil)
   .nil)
 (.cons (.ret (.bin .Add (.int 1) (.max (.call "_law_nest" (.cons (.ix (.v 0) (.int 1)) .nil)) (.call "_law_nest" (.cons (.ix (.v 0) (.int 2)) .nil)))))
 .nil))⟩
noncomputable def N0:Def:=⟨5,["_law_deck_here","_law_kind_here","_law_names_here","_law_room","_law_deep","_law_other","_law_way","_law_known","_law_more","_law_one"],
 (.cons (.set 5 (.call "_law_kind" (.cons (.v 0) (.cons (.int 1) (.cons (.int 4) .nil)))))
 (.cons (.iff (.or (.cmp .Gt (.call "_law_count" (.cons (.tup (.cons (.str "both") (.cons (.v 1) (.cons (.v 5) .nil)))) .nil)) (.int 100)) (.cmp .Gt (.call "_law_count" (.cons (.tup (.cons (.str "way") (.cons (.v 5) (.cons (.v 1) .nil)))) .nil)) (.int 100)))
   (.cons (.set 5 (.tup (.cons (.str "one") .nil)))
  .nil)
   .nil)
 (.cons (.set 6 (.call "_law_next" (.cons (.v 0) (.cons (.int 6) .nil))))
 (.cons (.iff (.cmp .Eq (.v 6) (.int 0))
   (.cons (.ret (.tup (.cons (.str "first") (.cons (.call "_law_grown" (.cons (.v 0) (.cons (.tup (.cons (.str "both") (.cons (.v 1) (.cons (.v 5) .nil)))) (.cons (.v 2) (.cons (.v 3) (.cons (.bin .Sub (.v 4) (.int 1)) .nil)))))) .nil))))
  .nil)
   .nil)
 (.cons (.iff (.cmp .Eq (.v 6) (.int 1))
   (.cons (.ret (.tup (.cons (.str "second") (.cons (.call "_law_grown" (.cons (.v 0) (.cons (.tup (.cons (.str "both") (.cons (.v 5) (.cons (.v 1) .nil)))) (.cons (.v 2) (.cons (.v 3) (.cons (.bin .Sub (.v 4) (.int 1)) .nil)))))) .nil))))
  .nil)
   .nil)
 (.cons (.iff (.cmp .Eq (.v 6) (.int 2))
   (.cons (.set 7 (.call "_law_grown" (.cons (.v 0) (.cons (.tup (.cons (.str "way") (.cons (.v 5) (.cons (.v 1) .nil)))) (.cons (.v 2) (.cons (.v 3) (.cons (.bin .Sub (.v 4) (.int 1)) .nil)))))))
  (.cons (.ret (.tup (.cons (.str "give") (.cons (.v 7) (.cons (.call "_law_grown" (.cons (.v 0) (.cons (.v 5) (.cons (.v 2) (.cons (.v 3) (.cons (.bin .Sub (.v 4) (.int 1)) .nil)))))) .nil)))))
  .nil))
   .nil)
 (.cons (.iff (.cmp .Eq (.v 6) (.int 3))
   (.cons (.set 7 (.call "_law_grown" (.cons (.v 0) (.cons (.v 5) (.cons (.v 2) (.cons (.v 3) (.cons (.bin .Sub (.v 4) (.int 1)) .nil)))))))
  (.cons (.ret (.tup (.cons (.str "let") (.cons (.v 7) (.cons (.call "_law_grown" (.cons (.v 0) (.cons (.v 1) (.cons (.bin .Add (.tup (.cons (.v 5) .nil)) (.v 2)) (.cons (.v 3) (.cons (.bin .Sub (.v 4) (.int 1)) .nil)))))) .nil)))))
  .nil))
   .nil)
 (.cons (.iff (.and (.cmp .Eq (.v 6) (.int 4)) (.cmp .In (.tup (.cons (.str "none") .nil)) (.v 2)))
   (.cons (.ret (.tup (.cons (.str "never") (.cons (.v 1) (.cons (.tup (.cons (.str "name") (.cons (.index (.v 2) (.tup (.cons (.str "none") .nil))) .nil))) .nil)))))
  .nil)
   .nil)
 (.cons (.set 8 (.call "_law_kind" (.cons (.v 0) (.cons (.int 1) (.cons (.int 4) .nil)))))
 (.cons (.set 7 (.call "_law_grown" (.cons (.v 0) (.cons (.tup (.cons (.str "either") (.cons (.v 5) (.cons (.v 8) .nil)))) (.cons (.v 2) (.cons (.v 3) (.cons (.bin .Sub (.v 4) (.int 1)) .nil)))))))
 (.cons (.set 9 (.call "_law_grown" (.cons (.v 0) (.cons (.v 1) (.cons (.bin .Add (.tup (.cons (.v 5) .nil)) (.v 2)) (.cons (.v 3) (.cons (.bin .Sub (.v 4) (.int 1)) .nil)))))))
 (.cons (.ret (.tup (.cons (.str "case") (.cons (.v 7) (.cons (.v 9) (.cons (.call "_law_grown" (.cons (.v 0) (.cons (.v 1) (.cons (.bin .Add (.tup (.cons (.v 8) .nil)) (.v 2)) (.cons (.v 3) (.cons (.bin .Sub (.v 4) (.int 1)) .nil)))))) .nil))))))
 .nil))))))))))))⟩
noncomputable def P6:Def:=⟨5,["_law_deck_here","_law_kind_here","_law_names_here","_law_room","_law_deep","_law_some","_law_way"],
 (.cons (.put (.v 3) (.int 0) (.bin .Sub (.ix (.v 3) (.int 0)) (.int 1)))
 (.cons (.set 5 (.comp ["_law_kind_here","_law_k","_law_name"] [1] 2 (.tup [1,2]) (.enum (.v 2)) (.cmp .Eq (.v 2) (.v 0)) (.v 1)))
 (.cons (.set 6 (.call "_law_next" (.cons (.v 0) (.cons (.int 8) .nil))))
 (.cons (.iff (.and (.cmp .Gt (.len (.v 5)) (.int 0)) (.cmp .Lt (.v 6) (.int 3)))
   (.cons (.ret (.tup (.cons (.str "name") (.cons (.ix (.v 5) (.call "_law_next" (.cons (.v 0) (.cons (.len (.v 5)) .nil)))) .nil))))
  .nil)
   .nil)
 (.cons (.iff (.or (.cmp .LtE (.ix (.v 3) (.int 0)) (.int 0)) (.or (.cmp .LtE (.v 4) (.int 0)) (.cmp .Eq (.v 1) (.tup (.cons (.str "none") .nil)))))
   (.cons (.ret (.call "_law_least" (.cons (.v 1) (.cons (.v 2) .nil))))
  .nil)
   .nil)
 (.cons (.iff (.or (.cmp .Lt (.v 6) (.int 6)) (.cmp .Gt (.call "_law_nest" (.cons (.v 1) .nil)) (.int 4)))
   (.cons (.ret (.call "_law_made" (.cons (.v 0) (.cons (.v 1) (.cons (.v 2) (.cons (.v 3) (.cons (.v 4) .nil)))))))
  .nil)
   .nil)
 (.cons (.ret (.call "_law_asked" (.cons (.v 0) (.cons (.v 1) (.cons (.v 2) (.cons (.v 3) (.cons (.v 4) .nil)))))))
 .nil)))))))⟩
noncomputable def ag7:Def:=⟨1,["_law_program_here","_law_word"],
 (.cons (.set 1 (.ix (.v 0) (.int 0)))
 (.cons (.iff (.cmp .Eq (.v 1) (.str "name"))
   (.cons (.ret (.tup .nil))
  .nil)
   .nil)
 (.cons (.ret (.sl (.v 0) (.bin .Add (.int 1) (.toInt (.cmp .In (.v 1) (.tup (.cons (.str "left") (.cons (.str "right") (.cons (.str "way") (.cons (.str "never") .nil)))))))) .non))
 .nil)))⟩
noncomputable def ag9:Def:=⟨1,["_law_program_here"],
 (.cons (.ret (.bin .Add (.int 1) (.sum (.comp ["_law_piece"] [] 1 (.n 0) (.seq (.call "_law_inner" (.cons (.v 0) .nil))) .non (.call "_law_parts" (.cons (.v 0) .nil))))))
 .nil)⟩
noncomputable def af8:Def:=⟨4,["_law_deck_here","_law_kind_here","_law_names_here","_law_many","_law_found"],
 (.cons (.set 4 (.call "_law_grown" (.cons (.v 0) (.cons (.v 1) (.cons (.v 2) (.cons (.lst (.cons (.v 3) .nil)) (.cons (.int 8) .nil)))))))
 (.cons (.iff (.cmp .Gt (.call "_law_parts" (.cons (.v 4) .nil)) (.int 60))
   (.cons (.ret (.call "_law_least" (.cons (.v 1) (.cons (.v 2) .nil))))
  .nil)
   .nil)
 (.cons (.ret (.v 4))
 .nil)))⟩
noncomputable def E7:Def:=⟨3,["_law_deck_here","_law_most","_law_lines","_law_names_here","_law_many","_law_k","_law_kind_here"],
 (.cons (.set 3 (.tup .nil))
 (.cons (.set 4 (.int 1))
 (.cons (.for (.n 5) (.rng (.call "_law_next" (.cons (.v 0) (.cons (.bin .Add (.v 1) (.int 1)) .nil))))
   (.cons (.set 6 (.call "_law_kind" (.cons (.v 0) (.cons (.int 2) (.cons (.int 16) .nil)))))
  (.cons (.iff (.cmp .Eq (.call "_law_next" (.cons (.v 0) (.cons (.int 12) .nil))) (.int 1))
    (.cons (.set 6 (.tup (.cons (.str "none") .nil)))
   .nil)
    .nil)
  (.cons (.iff (.cmp .LtE (.bin .Mult (.v 4) (.max (.int 1) (.call "_law_count" (.cons (.v 6) .nil)))) (.v 2))
    (.cons (.set 4 (.bin .Mult (.v 4) (.max (.int 1) (.call "_law_count" (.cons (.v 6) .nil)))))
   (.cons (.set 3 (.bin .Add (.v 3) (.tup (.cons (.v 6) .nil))))
   .nil))
    .nil)
  .nil))))
 (.cons (.ret (.v 3))
 .nil))))⟩
end Ek
namespace Ek
open PySem
noncomputable def X7:Def:=⟨3,["whole","parts_of","made","order","done","here","many"],
 (.cons (.set 3 (.call "order_of_few" (.cons (.v 0) (.cons (.v 1) .nil))))
 (.cons (.iff (.isN (.v 3))
   (.cons .dead
  .nil)
   .nil)
 (.cons (.set 4 (.lst .nil))
 (.cons (.for (.tup [5,6]) (.rev (.v 3))
   (.cons (.ex (.app (.v 4) (.callv 2 (.cons (.v 5) (.cons (.ite (.cmp .Gt (.v 6) (.int 0)) (.call "taken" (.cons (.v 4) (.cons (.v 6) .nil))) (.lst .nil)) .nil)))))
  .nil))
 (.cons (.ret (.ix (.v 4) (.int 0)))
 .nil)))))⟩
noncomputable def ae8:Def:=⟨2,["whole","parts_of","order","ahead","here","parts"],
 (.cons (.set 2 (.lst .nil))
 (.cons (.set 3 (.lst (.cons (.v 0) .nil)))
 (.cons (.while (.cmp .Gt (.len (.v 3)) (.int 0))
   (.cons (.set 4 (.pop (.v 3)))
  (.cons (.set 5 (.callv 1 (.cons (.v 4) .nil)))
  (.cons (.ex (.app (.v 2) (.tup (.cons (.v 4) (.cons (.len (.v 5)) .nil)))))
  (.cons (.ex (.ext (.v 3) (.v 5)))
  (.cons (.iff (.cmp .Gt (.len (.v 2)) (.gc "FEW"))
    (.cons (.ret .non)
   .nil)
    .nil)
  .nil))))))
 (.cons (.ret (.v 2))
 .nil))))⟩
noncomputable def ak5:Def:=⟨2,["done","many","parts","number"],
 (.cons (.set 2 (.lst .nil))
 (.cons (.for (.n 3) (.rng (.v 1))
   (.cons (.ex (.app (.v 2) (.pop (.v 0))))
  .nil))
 (.cons (.ex (.lrev (.v 2)))
 (.cons (.ret (.v 2))
 .nil))))⟩
end Ek
namespace Ek
open PySem
noncomputable def ad9:Def:=⟨1,["self"],
 (.cons (.fldS (.v 0) "numbers" .dnt)
 (.cons (.fldS (.v 0) "stored" (.lst .nil))
 (.cons (.fldS (.v 0) "parts" (.lst .nil))
 (.cons (.fldS (.v 0) "waiting" (.lst .nil))
 .nil))))⟩
noncomputable def ag2:Def:=⟨2,["self","one","made","!self","!"],
 (.cons (.dfn 2 2 ["here","numbers","self"] [0]
   (.cons (.ret (.meth (.v 2) "numbered" (.cons (.slw (.v 0) .non (.bin .Sub (.len (.v 0)) (.len (.v 1)))) (.cons (.tuple (.v 1)) .nil))))
  .nil))
 (.cons (.ret (.call "made_of_parts" (.cons (.v 1) (.cons (.gf "tuples_in") (.cons (.v 2) .nil)))))
 .nil))⟩
noncomputable def U3:Def:=⟨3,["self","kind","deep"],
 (.cons (.iff (.cmp .Eq (.len (.v 1)) (.int 1))
   (.cons (.ret (.meth (.v 0) "numbered" (.cons (.v 1) (.cons (.tup .nil) .nil))))
  .nil)
   .nil)
 (.cons (.iff (.cmp .Eq (.v 2) (.int 0))
   (.cons (.ret (.meth (.v 0) "laid" (.cons (.v 1) .nil)))
  .nil)
   .nil)
 (.cons (.ret (.meth (.v 0) "built" (.cons (.ix (.v 1) (.int 0)) (.cons (.meth (.v 0) "laid_kind" (.cons (.ix (.v 1) (.int 1)) (.cons (.bin .Sub (.v 2) (.int 1)) .nil))) (.cons (.meth (.v 0) "laid_kind" (.cons (.ix (.v 1) (.int 2)) (.cons (.bin .Sub (.v 2) (.int 1)) .nil))) .nil)))))
 .nil)))⟩
noncomputable def ag1:Def:=⟨4,["self","word","first","second"],
 (.cons (.ret (.meth (.v 0) "numbered" (.cons (.tup (.cons (.v 1) .nil)) (.cons (.tup (.cons (.v 2) (.cons (.v 3) .nil))) .nil))))
 .nil)⟩
noncomputable def ad5:Def:=⟨3,["self","front","numbers","key","number"],
 (.cons (.set 3 (.tup (.cons (.v 1) (.cons (.v 2) .nil))))
 (.cons (.set 4 (.dgt (.fld (.v 0) "numbers") (.v 3)))
 (.cons (.iff (.isN (.v 4))
   (.cons (.set 4 (.len (.fld (.v 0) "stored")))
  (.cons (.dput (.fld (.v 0) "numbers") (.v 3) (.v 4))
  (.cons (.ex (.app (.fld (.v 0) "stored") (.bin .Add (.v 1) (.tuple (.comp ["self","part"] [0] 1 (.n 1) (.seq (.v 2)) .non (.ix (.fld (.v 0) "stored") (.v 1)))))))
  (.cons (.ex (.app (.fld (.v 0) "parts") (.v 2)))
  .nil))))
   .nil)
 (.cons (.ret (.v 4))
 .nil))))⟩
noncomputable def ae9:Def:=⟨2,["self","kind"],
 (.cons (.ex (.app (.fld (.v 0) "waiting") (.tup (.cons (.v 1) (.cons .non .nil)))))
 (.cons (.ret (.neg (.len (.fld (.v 0) "waiting"))))
 .nil))⟩
noncomputable def ad7:Def:=⟨2,["self","number","waited"],
 (.cons (.iff (.cmp .GtE (.v 1) (.int 0))
   (.cons (.ret (.v 1))
  .nil)
   .nil)
 (.cons (.set 2 (.ix (.fld (.v 0) "waiting") (.bin .Sub (.neg (.int 1)) (.v 1))))
 (.cons (.iff (.isN (.ix (.v 2) (.int 1)))
   (.cons (.set 2 (.tup (.cons (.ix (.v 2) (.int 0)) (.cons (.methd (.v 0) "laid_kind" (.cons (.ix (.v 2) (.int 0)) .nil)) .nil))))
  (.cons (.put (.fld (.v 0) "waiting") (.bin .Sub (.neg (.int 1)) (.v 1)) (.v 2))
  .nil))
   .nil)
 (.cons (.ret (.ix (.v 2) (.int 1)))
 .nil))))⟩
noncomputable def ad6:Def:=⟨2,["self","number"],
 (.cons (.ret (.ix (.fld (.v 0) "stored") (.v 1)))
 .nil)⟩
noncomputable def ae2:Def:=⟨2,["self","number"],
 (.cons (.ret (.ix (.ix (.fld (.v 0) "stored") (.v 1)) (.int 0)))
 .nil)⟩
noncomputable def af6:Def:=⟨2,["self","number"],
 (.cons (.ret (.ix (.fld (.v 0) "parts") (.v 1)))
 .nil)⟩
noncomputable def bu9:Def:=⟨1,["self"],
 (.cons .dead
 .nil)⟩
noncomputable def ae0:Def:=⟨4,["self","program","inside","number"],
 (.cons (.fldS (.v 0) "program" (.v 1))
 (.cons (.fldS (.v 0) "inside" (.v 2))
 (.cons (.fldS (.v 0) "number" (.v 3))
 (.cons (.fldS (.v 0) "holders" (.int 0))
 (.cons (.fldS (.v 0) "ways" (.int 0))
 (.cons (.fldS (.v 0) "used" .non)
 (.cons (.fldS (.v 0) "kind" .non)
 .nil)))))))⟩
noncomputable def ag6:Def:=⟨1,["one"],
 (.cons (.ret (.comp ["part"] [] 1 (.n 0) (.seq (.v 0)) (.isT "tuple" (.v 0)) (.v 0)))
 .nil)⟩
noncomputable def al8:Def:=⟨1,["program"],
 (.cons (.ret (.list (.sl (.v 0) (.gsel "INNER_FROM" (.ix (.v 0) (.int 0))) .non)))
 .nil)⟩
noncomputable def ag3:Def:=⟨2,["program","number"],
 (.cons (.ret (.ite (.cmp .In (.v 1) (.gget "UNDER_ONE_MORE" (.ix (.v 0) (.int 0)) (.tup .nil))) (.int 1) (.int 0)))
 .nil)⟩
noncomputable def am0:Def:=⟨2,["program","nodes","made","!nodes","!"],
 (.cons (.dfn 2 2 ["here","inside","nodes","node","part"] [1]
   (.cons (.set 3 (.make "Node" (.cons (.v 0) (.cons (.v 1) (.cons (.len (.v 2)) .nil)))))
  (.cons (.ex (.app (.v 2) (.v 3)))
  (.cons (.for (.n 4) (.seq (.v 1))
    (.cons (.fldS (.v 4) "holders" (.bin .Add (.fld (.v 4) "holders") (.int 1)))
   (.cons (.fldS (.v 3) "ways" (.max (.fld (.v 3) "ways") (.fld (.v 4) "ways")))
   .nil)))
  (.cons (.iff (.cmp .Eq (.ix (.v 0) (.int 0)) (.str "way"))
    (.cons (.fldS (.v 3) "ways" (.bin .Add (.fld (.v 3) "ways") (.int 1)))
   .nil)
    .nil)
  (.cons (.ret (.v 3))
  .nil))))))
 (.cons (.ret (.call "made_of_parts" (.cons (.v 0) (.cons (.gf "inner") (.cons (.v 2) .nil)))))
 .nil))⟩
noncomputable def bw9:Def:=⟨1,["node","ahead","here","waiting"],
 (.cons (.set 1 (.ite (.isN (.fld (.v 0) "used")) (.lst (.cons (.v 0) .nil)) (.lst .nil)))
 (.cons (.while (.cmp .Gt (.len (.v 1)) (.int 0))
   (.cons (.set 2 (.ix (.v 1) (.neg (.int 1))))
  (.cons (.set 3 (.comp ["part"] [] 1 (.n 0) (.seq (.fld (.v 2) "inside")) (.isN (.fld (.v 0) "used")) (.v 0)))
  (.cons (.iff (.cmp .Gt (.len (.v 3)) (.int 0))
    (.cons (.ex (.ext (.v 1) (.v 3)))
   .nil)
    (.cons (.fldS (.v 2) "used" (.call "used_by_parts" (.cons (.v 2) .nil)))
   (.cons (.ex (.pop (.v 1)))
   .nil)))
  .nil))))
 (.cons (.ret (.fld (.v 0) "used"))
 .nil)))⟩
noncomputable def bv4:Def:=⟨1,["node","numbers","number","part","less"],
 (.cons (.iff (.cmp .Eq (.ix (.fld (.v 0) "program") (.int 0)) (.str "name"))
   (.cons (.ret (.tup (.cons (.ix (.fld (.v 0) "program") (.int 1)) .nil)))
  .nil)
   .nil)
 (.cons (.set 1 (.lst .nil))
 (.cons (.for (.tup [2,3]) (.enum (.fld (.v 0) "inside"))
   (.cons (.set 4 (.call "names_more" (.cons (.fld (.v 0) "program") (.cons (.v 2) .nil))))
  (.cons (.ex (.ext (.v 1) (.comp ["less","name"] [4] 1 (.n 1) (.seq (.fld (.v 3) "used")) (.cmp .GtE (.v 1) (.v 0)) (.bin .Sub (.v 1) (.v 0)))))
  .nil)))
 (.cons .dead
 .nil))))⟩
noncomputable def L6:Def:=⟨4,["node","known","named","made","begun","answers","before","here","number","key","answer"],
 (.cons (.set 4 (.lst (.cons (.v 0) .nil)))
 (.cons (.set 5 (.lst (.cons (.lst .nil) .nil)))
 (.cons (.set 6 .dnt)
 (.cons (.while (.bl AC)
   (.cons (.set 7 (.ix (.v 4) (.neg (.int 1))))
  (.cons (.set 8 (.len (.ix (.v 5) (.neg (.int 1)))))
  (.cons (.set 9 (.ite (.cmp .Gt (.fld (.v 7) "holders") (.int 1)) (.call "known_for" (.cons (.v 7) (.cons (.v 1) .nil))) .non))
  (.cons (.iff (.and (.din AC (.v 9) (.v 6)) (.cmp .Lt (.v 8) (.len (.fld (.v 7) "inside"))))
    (.cons (.iff (.cmp .Eq (.call "names_more" (.cons (.fld (.v 7) "program") (.cons (.v 8) .nil))) (.int 1))
     (.cons (.ex (.app (.v 1) (.callv 2 (.cons (.fld (.v 7) "program") (.cons (.ix (.v 5) (.neg (.int 1))) (.cons (.v 8) .nil))))))
    .nil)
     .nil)
   (.cons (.ex (.app (.v 4) (.ix (.fld (.v 7) "inside") (.v 8))))
   (.cons (.ex (.app (.v 5) (.lst .nil)))
   (.cons .cont
   .nil))))
    .nil)
  (.cons (.set 10 (.ite (.din AG (.v 9) (.v 6)) (.ix (.v 6) (.v 9)) (.callv 3 (.cons (.v 7) (.cons (.ix (.v 5) (.neg (.int 1))) (.cons (.v 1) .nil))))))
  (.cons (.iff (.notN (.v 9))
    (.cons (.dput (.v 6) (.v 9) (.v 10))
   .nil)
    .nil)
  (.cons (.ex (.pop (.v 4)))
  (.cons (.ex (.pop (.v 5)))
  (.cons (.iff (.cmp .Eq (.len (.v 4)) (.int 0))
    (.cons (.ret (.v 10))
   .nil)
    .nil)
  (.cons (.iff (.cmp .Eq (.call "names_more" (.cons (.fld (.ix (.v 4) (.neg (.int 1))) "program") (.cons (.len (.ix (.v 5) (.neg (.int 1)))) .nil))) (.int 1))
    (.cons (.ex (.pop (.v 1)))
   .nil)
    .nil)
  (.cons (.ex (.app (.ix (.v 5) (.neg (.int 1))) (.v 10)))
  .nil))))))))))))
 .nil))))⟩
noncomputable def bx6:Def:=⟨2,["node","known","last"],
 (.cons (.set 2 (.bin .Sub (.len (.v 1)) (.int 1)))
 (.cons (.ret (.tup (.cons (.fld (.v 0) "number") (.cons (.tuple (.comp ["known","last","name"] [1,2] 1 (.n 2) (.seq (.call "used_names" (.cons (.v 0) .nil))) (.and (.cmp .GtE (.v 2) (.int 0)) (.cmp .LtE (.v 2) (.v 1))) (.ix (.v 0) (.bin .Sub (.v 1) (.v 2))))) .nil))))
 .nil))⟩
noncomputable def ai1:Def:=⟨2,["program","names","shelf"],
 (.cons (.set 2 (.make "Shelf" .nil))
 (.cons (.ret (.meth (.v 2) "tuple_at" (.cons (.call "shelved_kind" (.cons (.v 0) (.cons (.call "shelved_names" (.cons (.v 1) (.cons (.v 2) .nil))) (.cons (.v 2) .nil)))) .nil)))
 .nil))⟩
noncomputable def ae6:Def:=⟨2,["names","shelf"],
 (.cons (.ret (.comp ["shelf","kind"] [1] 1 (.n 1) (.revt (.v 0)) .non (.meth (.v 0) "put_by" (.cons (.v 1) .nil))))
 .nil)⟩
noncomputable def ae7:Def:=⟨3,["program","known","shelf"],
 (.cons (.ret (.call "kind_of_node" (.cons (.call "noded" (.cons (.v 0) (.cons (.lst .nil) .nil))) (.cons (.v 1) (.cons (.v 2) .nil)))))
 .nil)⟩
noncomputable def af3:Def:=⟨3,["node","known","shelf","named","made","!shelf","!"],
 (.cons (.dfn 3 3 ["here","kinds","number","shelf"] [2]
   (.cons (.ret (.call "new_name" (.cons (.v 0) (.cons (.v 1) (.cons (.v 2) (.cons (.v 3) .nil))))))
  .nil))
 (.cons (.dfn 4 3 ["here","kinds","known_here","shelf","kind"] [2]
   (.cons (.set 4 (.call "kind_by_parts" (.cons (.fld (.v 0) "program") (.cons (.v 1) (.cons (.v 2) (.cons (.v 3) .nil))))))
  (.cons (.fldS (.v 0) "kind" (.ite (.or (.isN (.fld (.v 0) "kind")) (.cmp .Eq (.fld (.v 0) "kind") (.v 4))) (.v 4) (.neg (.int 1))))
  (.cons (.ret (.v 4))
  .nil))))
 (.cons (.ret (.call "folded" (.cons (.v 0) (.cons (.v 1) (.cons (.v 3) (.cons (.v 4) .nil))))))
 .nil)))⟩
noncomputable def ae5:Def:=⟨4,["program","kinds","known","shelf"],
 (.cons (.ret (.callx (.gsel "BY_WORD" (.ix (.v 0) (.int 0))) (.cons (.v 0) (.cons (.v 1) (.cons (.v 2) (.cons (.v 3) .nil))))))
 .nil)⟩
noncomputable def ah7:Def:=⟨4,["program","kinds","number","shelf"],
 (.cons (.iff (.cmp .Eq (.ix (.v 0) (.int 0)) (.str "way"))
   (.cons (.ret (.methd (.v 3) "laid_kind" (.cons (.ix (.v 0) (.int 1)) .nil)))
  .nil)
   .nil)
 (.cons (.iff (.cmp .Eq (.ix (.v 0) (.int 0)) (.str "let"))
   (.cons (.ret (.ix (.v 1) (.int 0)))
  .nil)
   .nil)
 (.cons (.ret (.ix (.call "halves_of" (.cons (.str "either") (.cons (.ix (.v 1) (.int 0)) (.cons (.v 3) .nil)))) (.bin .Sub (.v 2) (.int 1))))
 .nil)))⟩
noncomputable def ah0:Def:=⟨3,["word","kind","shelf"],
 (.cons (.iff (.cmp .NotEq (.meth (.v 2) "word_at" (.cons (.v 1) .nil)) (.v 0))
   (.cons .dead
  .nil)
   .nil)
 (.cons (.ret (.meth (.v 2) "within" (.cons (.v 1) .nil)))
 .nil))⟩
noncomputable def af2:Def:=⟨4,["program","kinds","known","shelf","number"],
 (.cons (.set 4 (.ix (.v 0) (.int 1)))
 (.cons (.iff (.or (.cmp .Lt (.v 4) (.int 0)) (.cmp .GtE (.v 4) (.len (.v 2))))
   (.cons .dead
  .nil)
   .nil)
 (.cons (.ret (.meth (.v 3) "taken_up" (.cons (.ix (.v 2) (.bin .Sub (.bin .Sub (.len (.v 2)) (.int 1)) (.v 4))) .nil)))
 .nil)))⟩
noncomputable def af1:Def:=⟨4,["program","kinds","known","shelf"],
 (.cons (.ret (.meth (.v 3) "numbered" (.cons (.tup (.cons (.str "one") .nil)) (.cons (.tup .nil) .nil))))
 .nil)⟩
noncomputable def af0:Def:=⟨4,["program","kinds","known","shelf"],
 (.cons (.ret (.meth (.v 3) "built" (.cons (.str "both") (.cons (.ix (.v 1) (.int 0)) (.cons (.ix (.v 1) (.int 1)) .nil)))))
 .nil)⟩
noncomputable def ae4:Def:=⟨4,["program","kinds","known","shelf"],
 (.cons (.ret (.ix (.call "halves_of" (.cons (.str "both") (.cons (.ix (.v 1) (.int 0)) (.cons (.v 3) .nil)))) (.int 0)))
 .nil)⟩
noncomputable def ad8:Def:=⟨4,["program","kinds","known","shelf"],
 (.cons (.ret (.ix (.call "halves_of" (.cons (.str "both") (.cons (.ix (.v 1) (.int 0)) (.cons (.v 3) .nil)))) (.int 1)))
 .nil)⟩
noncomputable def af5:Def:=⟨4,["program","kinds","known","shelf"],
 (.cons (.ret (.meth (.v 3) "built" (.cons (.str "either") (.cons (.ix (.v 1) (.int 0)) (.cons (.methd (.v 3) "laid_kind" (.cons (.ix (.v 0) (.int 1)) .nil)) .nil)))))
 .nil)⟩
noncomputable def ae3:Def:=⟨4,["program","kinds","known","shelf"],
 (.cons (.ret (.meth (.v 3) "built" (.cons (.str "either") (.cons (.methd (.v 3) "laid_kind" (.cons (.ix (.v 0) (.int 1)) .nil)) (.cons (.ix (.v 1) (.int 0)) .nil)))))
 .nil)⟩
noncomputable def af7:Def:=⟨4,["program","kinds","known","shelf"],
 (.cons (.iff (.cmp .NotEq (.ix (.v 1) (.int 1)) (.ix (.v 1) (.int 2)))
   (.cons .dead
  .nil)
   .nil)
 (.cons (.ret (.ix (.v 1) (.int 1)))
 .nil))⟩
noncomputable def ag0:Def:=⟨4,["program","kinds","known","shelf"],
 (.cons (.ret (.meth (.v 3) "built" (.cons (.str "way") (.cons (.methd (.v 3) "laid_kind" (.cons (.ix (.v 0) (.int 1)) .nil)) (.cons (.ix (.v 1) (.int 0)) .nil)))))
 .nil)⟩
noncomputable def af4:Def:=⟨4,["program","kinds","known","shelf","ends"],
 (.cons (.set 4 (.call "halves_of" (.cons (.str "way") (.cons (.ix (.v 1) (.int 0)) (.cons (.v 3) .nil)))))
 (.cons (.iff (.cmp .NotEq (.ix (.v 4) (.int 0)) (.ix (.v 1) (.int 1)))
   (.cons .dead
  .nil)
   .nil)
 (.cons (.ret (.ix (.v 4) (.int 1)))
 .nil)))⟩
noncomputable def af9:Def:=⟨4,["program","kinds","known","shelf"],
 (.cons (.ret (.ix (.v 1) (.int 1)))
 .nil)⟩
noncomputable def ae1:Def:=⟨4,["program","kinds","known","shelf"],
 (.cons (.iff (.cmp .NotEq (.meth (.v 3) "word_at" (.cons (.ix (.v 1) (.int 0)) .nil)) (.str "none"))
   (.cons .dead
  .nil)
   .nil)
 (.cons (.ret (.methd (.v 3) "laid_kind" (.cons (.ix (.v 0) (.int 1)) .nil)))
 .nil))⟩
end Ek
namespace Ek
open PySem
noncomputable def E6:Def:=⟨2,["_law_program_here","_law_names_here","_law_word","_law_body","_law_first","_law_other"],
 (.cons (.set 2 (.ix (.v 0) (.int 0)))
 (.cons (.iff (.cmp .Eq (.v 2) (.str "name"))
   (.cons (.ret (.igt (.denu (.v 1)) (.ix (.v 0) (.int 1))))
  .nil)
   .nil)
 (.cons (.iff (.cmp .Eq (.v 2) (.str "star"))
   (.cons (.ret (.tup (.cons (.str "one") .nil)))
  .nil)
   .nil)
 (.cons (.iff (.cmp .Eq (.v 2) (.str "way"))
   (.cons (.set 3 (.call "_law_kind_of" (.cons (.ix (.v 0) (.int 2)) (.cons (.bin .Add (.tup (.cons (.ix (.v 0) (.int 1)) .nil)) (.v 1)) .nil))))
  (.cons (.ret (.ix (.lst (.cons (.tup (.cons (.str "way") (.cons (.ix (.v 0) (.int 1)) (.cons (.v 3) .nil)))) (.cons .non .nil))) (.toInt (.isN (.v 3)))))
  .nil))
   .nil)
 (.cons (.set 4 (.call "_law_kind_of" (.cons (.ix (.call "_law_inner" (.cons (.v 0) .nil)) (.int 0)) (.cons (.v 1) .nil))))
 (.cons (.iff (.isN (.v 4))
   (.cons (.ret .non)
  .nil)
   .nil)
 (.cons (.iff (.cmp .Eq (.v 2) (.str "case"))
   (.cons (.ret (.call "_law_kind_of_case" (.cons (.v 0) (.cons (.v 4) (.cons (.v 1) .nil)))))
  .nil)
   .nil)
 (.cons (.iff (.cmp .Eq (.v 2) (.str "let"))
   (.cons (.ret (.call "_law_kind_of" (.cons (.ix (.v 0) (.int 2)) (.cons (.bin .Add (.tup (.cons (.v 4) .nil)) (.v 1)) .nil))))
  .nil)
   .nil)
 (.cons (.iff (.cmp .Eq (.v 2) (.str "never"))
   (.cons (.ret (.ix (.lst (.cons .non (.cons (.ix (.v 0) (.int 1)) .nil))) (.toInt (.cmp .Eq (.v 4) (.tup (.cons (.str "none") .nil))))))
  .nil)
   .nil)
 (.cons (.iff (.cmp .Eq (.v 2) (.str "left"))
   (.cons (.ret (.tup (.cons (.str "either") (.cons (.v 4) (.cons (.ix (.v 0) (.int 1)) .nil)))))
  .nil)
   .nil)
 (.cons (.iff (.cmp .Eq (.v 2) (.str "right"))
   (.cons (.ret (.tup (.cons (.str "either") (.cons (.ix (.v 0) (.int 1)) (.cons (.v 4) .nil)))))
  .nil)
   .nil)
 (.cons (.iff (.or (.cmp .Eq (.v 2) (.str "first")) (.cmp .Eq (.v 2) (.str "second")))
   (.cons (.iff (.cmp .NotEq (.ix (.v 4) (.int 0)) (.str "both"))
    (.cons (.ret .non)
   .nil)
    .nil)
  (.cons (.ret (.ix (.v 4) (.bin .Add (.int 1) (.toInt (.cmp .Eq (.v 2) (.str "second"))))))
  .nil))
   .nil)
 (.cons (.set 5 (.call "_law_kind_of" (.cons (.ix (.v 0) (.int 2)) (.cons (.v 1) .nil))))
 (.cons (.iff (.cmp .Eq (.v 2) (.str "pair"))
   (.cons (.ret (.ix (.lst (.cons (.tup (.cons (.str "both") (.cons (.v 4) (.cons (.v 5) .nil)))) (.cons .non .nil))) (.toInt (.isN (.v 5)))))
  .nil)
   .nil)
 (.cons (.iff (.or (.cmp .NotEq (.ix (.v 4) (.int 0)) (.str "way")) (.or (.isN (.v 5)) (.cmp .NotEq (.ix (.v 4) (.int 1)) (.v 5))))
   (.cons (.ret .non)
  .nil)
   .nil)
 (.cons (.ret (.ix (.v 4) (.int 2)))
 .nil))))))))))))))))⟩
noncomputable def U2:Def:=⟨3,["_law_program_here","_law_first","_law_names_here","_law_one","_law_other"],
 (.cons (.iff (.cmp .NotEq (.ix (.v 1) (.int 0)) (.str "either"))
   (.cons (.ret .non)
  .nil)
   .nil)
 (.cons (.set 3 (.call "_law_kind_of" (.cons (.ix (.v 0) (.int 2)) (.cons (.bin .Add (.tup (.cons (.ix (.v 1) (.int 1)) .nil)) (.v 2)) .nil))))
 (.cons (.set 4 (.call "_law_kind_of" (.cons (.ix (.v 0) (.int 3)) (.cons (.bin .Add (.tup (.cons (.ix (.v 1) (.int 2)) .nil)) (.v 2)) .nil))))
 (.cons (.ret (.ix (.lst (.cons .non (.cons (.v 3) .nil))) (.toInt (.cmp .Eq (.v 3) (.v 4)))))
 .nil))))⟩
noncomputable def U4:Def:=⟨2,["_law_program_here","_law_names_here","_law_found","_law_some","_law_k","_law_piece","_law_more"],
 (.cons (.set 2 (.lst (.cons (.tup (.cons (.v 0) (.cons (.v 1) .nil))) .nil)))
 (.cons (.set 3 (.call "_law_inner" (.cons (.v 0) .nil)))
 (.cons (.for (.tup [4,5]) (.enum (.v 3))
   (.cons (.set 6 (.tup .nil))
  (.cons (.iff (.cmp .Eq (.ix (.v 0) (.int 0)) (.str "way"))
    (.cons (.set 6 (.tup (.cons (.ix (.v 0) (.int 1)) .nil)))
   .nil)
    .nil)
  (.cons (.iff (.or (.and (.cmp .Eq (.ix (.v 0) (.int 0)) (.str "let")) (.cmp .Eq (.v 4) (.int 1))) (.and (.cmp .Eq (.ix (.v 0) (.int 0)) (.str "case")) (.cmp .Gt (.v 4) (.int 0))))
    (.cons (.set 6 (.tup (.cons (.call "_law_kind_of" (.cons (.ix (.v 3) (.int 0)) (.cons (.v 1) .nil))) .nil)))
   .nil)
    .nil)
  (.cons (.iff (.and (.cmp .Eq (.ix (.v 0) (.int 0)) (.str "case")) (.cmp .Gt (.v 4) (.int 0)))
    (.cons (.set 6 (.tup (.cons (.ix (.ix (.v 6) (.int 0)) (.v 4)) .nil)))
   .nil)
    .nil)
  (.cons (.set 2 (.bin .Add (.v 2) (.call "_law_all" (.cons (.v 5) (.cons (.bin .Add (.v 6) (.v 1)) .nil)))))
  .nil))))))
 (.cons (.ret (.v 2))
 .nil))))⟩
noncomputable def Y2:Def:=⟨1,["_law_script","_law_deck_here","_law_names_here","_law_kind_here","_law_program_here","_law_one","_law_there","_law_great","_law_wide","_law_last","_law_due"],
 (.cons (.set 1 (.call "_law_deck" (.cons (.v 0) .nil)))
 (.cons (.set 2 (.call "_law_names" (.cons (.v 1) (.cons (.int 3) (.cons (.int 64) .nil)))))
 (.cons (.set 3 (.call "_law_kind" (.cons (.v 1) (.cons (.int 3) (.cons (.int 16) .nil)))))
 (.cons (.set 4 (.call "_law_program" (.cons (.v 1) (.cons (.v 3) (.cons (.v 2) (.cons (.bin .Add (.int 4) (.call "_law_next" (.cons (.v 1) (.cons (.int 30) .nil)))) .nil))))))
 (.cons (.iff (.or (.cmp .NotEq (.call "kind_of" (.cons (.v 4) (.cons (.v 2) .nil))) (.v 3)) (.cmp .NotEq (.call "_law_kind_of" (.cons (.v 4) (.cons (.v 2) .nil))) (.v 3)))
   (.cons (.ret (.bl AG))
  .nil)
   .nil)
 (.cons (.for (.tup [5,6]) (.seq (.call "_law_all" (.cons (.v 4) (.cons (.v 2) .nil))))
   (.cons (.iff (.cmp .NotEq (.call "kind_of" (.cons (.v 5) (.cons (.v 6) .nil))) (.call "_law_kind_of" (.cons (.v 5) (.cons (.v 6) .nil))))
    (.cons (.ret (.bl AG))
   .nil)
    .nil)
  .nil))
 (.cons (.set 7 (.tup (.cons (.str "both") (.cons (.tup (.cons (.str "both") (.cons (.v 3) (.cons (.v 3) .nil)))) (.cons (.tup (.cons (.str "way") (.cons (.tup (.cons (.str "either") (.cons (.tup (.cons (.str "one") .nil)) (.cons (.tup (.cons (.str "one") .nil)) .nil)))) (.cons (.tup (.cons (.str "both") (.cons (.v 3) (.cons (.v 3) .nil)))) .nil)))) .nil)))))
 (.cons (.set 8 (.bin .Add (.bin .Add (.v 2) (.bin .Mult (.tup (.cons (.tup (.cons (.str "one") .nil)) .nil)) (.bin .Add (.int 1) (.call "_law_next" (.cons (.v 1) (.cons (.int 90) .nil)))))) (.tup (.cons (.v 7) .nil))))
 (.cons (.set 9 (.tup (.cons (.str "name") (.cons (.bin .Sub (.len (.v 8)) (.int 1)) .nil))))
 (.cons (.for (.tup [5,10]) (.seq (.tup (.cons (.tup (.cons (.tup (.cons (.str "left") (.cons (.v 7) (.cons (.v 4) .nil)))) (.cons (.tup (.cons (.str "either") (.cons (.v 3) (.cons (.v 7) .nil)))) .nil))) (.cons (.tup (.cons (.v 9) (.cons (.v 7) .nil))) (.cons (.tup (.cons (.v 4) (.cons (.v 3) .nil))) .nil)))))
   (.cons (.iff (.or (.cmp .NotEq (.call "kind_of" (.cons (.v 5) (.cons (.v 8) .nil))) (.v 10)) (.cmp .NotEq (.call "kind_of" (.cons (.tup (.cons (.str "pair") (.cons (.v 5) (.cons (.v 9) .nil)))) (.cons (.v 8) .nil))) (.tup (.cons (.str "both") (.cons (.v 10) (.cons (.v 7) .nil))))))
    (.cons (.ret (.bl AG))
   .nil)
    .nil)
  (.cons (.iff (.cmp .NotEq (.call "kind_of" (.cons (.tup (.cons (.str "second") (.cons (.tup (.cons (.str "first") (.cons (.v 9) .nil))) .nil))) (.cons (.v 8) .nil))) (.v 3))
    (.cons (.ret (.bl AG))
   .nil)
    .nil)
  .nil)))
 (.cons (.ret (.cmp .Eq (.call "kind_of" (.cons (.v 4) (.cons (.v 2) .nil))) (.v 3)))
 .nil)))))))))))⟩
noncomputable def V3:List (Str×Def):=[(("Shelf.__init__":Str),ad9),(("Shelf.laid":Str),ag2),(("Shelf.laid_kind":Str),U3),(("Shelf.built":Str),ag1),(("Shelf.numbered":Str),ad5),(("Shelf.put_by":Str),ae9),(("Shelf.taken_up":Str),ad7),(("Shelf.tuple_at":Str),ad6),(("Shelf.word_at":Str),ae2),(("Shelf.within":Str),af6),(("Shelf.all_laid":Str),bu9),(("Node.__init__":Str),ae0),(("made_of_parts":Str),X7),(("order_of_few":Str),ae8),(("taken":Str),ak5),(("tuples_in":Str),ag6),(("inner":Str),al8),(("names_more":Str),ag3),(("noded":Str),am0),(("used_names":Str),bw9),(("used_by_parts":Str),bv4),(("folded":Str),L6),(("known_for":Str),bx6),(("kind_of":Str),ai1),(("shelved_names":Str),ae6),(("shelved_kind":Str),ae7),(("kind_of_node":Str),af3),(("kind_by_parts":Str),ae5),(("new_name":Str),ah7),(("halves_of":Str),ah0),(("kind_of_name":Str),af2),(("kind_of_star":Str),af1),(("kind_of_pair":Str),af0),(("kind_of_first":Str),ae4),(("kind_of_second":Str),ad8),(("kind_of_left":Str),af5),(("kind_of_right":Str),ae3),(("kind_of_case":Str),af7),(("kind_of_way":Str),ag0),(("kind_of_give":Str),af4),(("kind_of_let":Str),af9),(("kind_of_never":Str),ae1),(("_law_mixed":Str),ag5),(("_law_deck":Str),E8),(("_law_next":Str),ah2),(("_law_power":Str),ah1),(("_law_count":Str),X8),(("_law_kind":Str),G4),(("_law_least":Str),P5),(("_law_made":Str),L5),(("_law_nest":Str),Y0),(("_law_asked":Str),N0),(("_law_grown":Str),P6),(("_law_inner":Str),ag7),(("_law_parts":Str),ag9),(("_law_program":Str),af8),(("_law_names":Str),E7),(("_law_kind_of":Str),E6),(("_law_kind_of_case":Str),U2),(("_law_all":Str),U4),(("law":Str),Y2)]
noncomputable def V2:i8:=λf=>V3.lookup f
noncomputable def z4:Gs:=⟨λg=>if g="INNER_FROM" then [("name",.int 2),("star",.int 1),("pair",.int 1),("first",.int 1),("second",.int 1),("left",.int 2),("right",.int 2),("case",.int 1),("way",.int 2),("give",.int 1),("let",.int 1),("never",.int 2)]else if g="UNDER_ONE_MORE" then [("case",.ktup [1,2]),("way",.ktup [0]),("let",.ktup [1])]else if g="BY_WORD" then [("name",.fn "kind_of_name"),("star",.fn "kind_of_star"),("pair",.fn "kind_of_pair"),("first",.fn "kind_of_first"),("second",.fn "kind_of_second"),("left",.fn "kind_of_left"),("right",.fn "kind_of_right"),("case",.fn "kind_of_case"),("way",.fn "kind_of_way"),("give",.fn "kind_of_give"),("let",.fn "kind_of_let"),("never",.fn "kind_of_never")]else [],λc=>if c="!kt" then ["n"]else if c="!Shelf.laid_kind" then ["d","d","d","d"]else if c="Shelf" then ["numbers","stored","parts","waiting"]else if c="Node" then ["program","inside","number","holders","ways","used","kind"]else [],λg=>if g="FEW" then AA 2000 else AE⟩
end Ek
namespace Ek
open PySem L2
variable{fd:Ba}{ps:List Str}
noncomputable abbrev bl0(K:AO)(cd:AF)(ts:List AI):Prop:=∃c P,cd=.ref c∧Bt K c P=AC∧P∈ts
noncomputable def FnA(K:AO)(ts:List AI)(m:Bool)(f:Str)(st:BR):Prop:=∃(fa:AI)(od an:Option AI)(sl:Array (Option AF))(oc kV dc pm cd ct:AF),
 Aw K AN f=AA (AA (.ref fa))∧K.lookup fa=AA ⟨oc,od,.func (Cw f f (x0 st) (u5 st) (l8 st) .none kV dc pm an cd ct),sl⟩∧Cu K cd f=AC∧Bh K (.ref fa)=AC∧(m=AC->bl0 K cd ts)
section
variable {K:AO} {ts:List AI} {f c m:Str} {st:BR} {fa Ca:AI} {od an:Option AI} {sl:Array (Option AF)} {oc kV dc pm cd ct:AF} {hc hp:AI}
def fnA(a1:Aw K AN f=AA (AA (.ref fa)))(l1:K.lookup fa=AA ⟨oc,od,.func (Cw f f (x0 st) (u5 st) (l8 st) .none kV dc pm an cd ct),sl⟩)(c1:Cu K cd f=AC)(k1:Bh K (.ref fa)=AC):FnA K ts AG f st:=
 ⟨_,_,_,_,_,_,_,_,_,_,a1,l1,c1,k1,nofun⟩
def fnM(a1:Aw K AN f=AA (AA (.ref fa)))(l1:K.lookup fa=AA ⟨oc,od,.func (Cw f f (x0 st) (u5 st) (l8 st) .none kV dc pm an cd ct),sl⟩)(c1:Cu K cd f=AC)(k1:Bh K (.ref fa)=AC)
  (h1:ab5 K cd=AA (hc,hp)) (h2:Bt K hc hp=AC) (h3:ts.contains hp=AC):FnA K ts AC f st:=
 ⟨_,_,_,_,_,_,_,_,_,_,a1,l1,c1,k1,λ_=>bi9 h1 h2 h3⟩
structure ClA(K:AO)(c:Str)(Ca:AI):Prop where
 a:Aw K AN c=AA (AA (.ref Ca))
 cl:Cls K Ca
 ms:HU K Ca=AC
 kp:Bh K (.ref Ca)=AC
def clA(a1:Aw K AN c=AA (AA (.ref Ca)))(a2:Fb K Ca Str.empty=AC)(a3:GU K Ca=AC)(a4:Hw K Ca=AC)(a5:BS K (.ref Ca) "__setattr__"=AA (AA (.builtin "object.__setattr__")))(a6:HU K Ca=AC)(a7:Bh K (.ref Ca)=AC):ClA K c Ca:=⟨a1,⟨a2,a3,a4,a5⟩,a6,a7⟩
noncomputable def MtA(K:AO)(ts:List AI)(b:Bool)(c:Str)(Ca:AI)(m:Str)(st:BR):Prop:=∃(fa:AI)(od an:Option AI)(sl:Array (Option AF))(oc kV dc pm cd ct:AF),
 Aw K AN (c7 c m)=AA AE∧Meth K Ca m fa∧K.lookup fa=AA ⟨oc,od,.func (Cw m (c7 c m) (x0 st) (u5 st) (l8 st) .none kV dc pm an cd ct),sl⟩∧Cu K cd (c7 c m)=AC∧(b=AC->bl0 K cd ts)
def mtA(a1:Aw K AN (c7 c m)=AA AE)(a2:BS K (.ref Ca) m=AA (AA (.ref fa)))(a3:Hd K (.ref fa)=AC)(a4:Bh K (.ref fa)=AC)
  (l1:K.lookup fa=AA ⟨oc,od,.func (Cw m (c7 c m) (x0 st) (u5 st) (l8 st) .none kV dc pm an cd ct),sl⟩) (c1:Cu K cd (c7 c m)=AC):MtA K ts AG c Ca m st:=⟨_,_,_,_,_,_,_,_,_,_,a1,⟨a2,a3,a4⟩,l1,c1,nofun⟩
def mtM(a1:Aw K AN (c7 c m)=AA AE)(a2:BS K (.ref Ca) m=AA (AA (.ref fa)))(a3:Hd K (.ref fa)=AC)(a4:Bh K (.ref fa)=AC)
  (l1:K.lookup fa=AA ⟨oc,od,.func (Cw m (c7 c m) (x0 st) (u5 st) (l8 st) .none kV dc pm an cd ct),sl⟩) (c1:Cu K cd (c7 c m)=AC) (h1:ab5 K cd=AA (hc,hp)) (h2:Bt K hc hp=AC) (h3:ts.contains hp=AC):MtA K ts AC c Ca m st:=
 ⟨_,_,_,_,_,_,_,_,_,_,a1,⟨a2,a3,a4⟩,l1,c1,λ_=>bi9 h1 h2 h3⟩
noncomputable def MtD(K:AO)(c:Str)(Ca:AI)(m:Str)(st:BR)(i:Int):Prop:=∃(fa T:AI)(od an td:Option AI)(sl tsl:Array (Option AF))(oc kV dc pm cd ct tc:AF)(tk:Tok)(n:Nat),
 Aw K AN (c7 c m)=AA AE∧Meth K Ca m fa∧K.lookup fa=AA ⟨oc,od,.func (Cw m (c7 c m) (x0 st) (u5 st) (l8 st) (.ref T) kV dc pm an cd ct),sl⟩∧Cu K cd (c7 c m)=AC∧K.lookup T=AA ⟨tc,td,.seq #[.int i tk] n,tsl⟩
def mtD{T:AI}{td:Option AI}{tsl:Array (Option AF)}{tc:AF}{tk:Tok}{n:Nat}{i:Int}(a1:Aw K AN (c7 c m)=AA AE)(a2:BS K (.ref Ca) m=AA (AA (.ref fa)))(a3:Hd K (.ref fa)=AC)(a4:Bh K (.ref fa)=AC)
  (l1:K.lookup fa=AA ⟨oc,od,.func (Cw m (c7 c m) (x0 st) (u5 st) (l8 st) (.ref T) kV dc pm an cd ct),sl⟩) (c1:Cu K cd (c7 c m)=AC) (t1:K.lookup T=AA ⟨tc,td,.seq #[.int i tk] n,tsl⟩):MtD K c Ca m st i:=
 ⟨_,_,_,_,_,_,_,_,_,_,_,_,_,_,_,_,a1,⟨a2,a3,a4⟩,l1,c1,t1⟩
end
def bd0(h:BX fd ⟨[],[]⟩=pure (ps.zip []))(us:List AF)(hl:us.length=0):BX fd ⟨us,[]⟩=pure (ps.zip us):=match us,hl with|[],_=>h
def bd1(h:∀a0,BX fd ⟨[a0],[]⟩=pure (ps.zip [a0]))(us:List AF)(hl:us.length=1):BX fd ⟨us,[]⟩=pure (ps.zip us):=match us,hl with|[a0],_=>h a0
def bd2(h:∀a0 a1,BX fd ⟨[a0,a1],[]⟩=pure (ps.zip [a0,a1]))(us:List AF)(hl:us.length=2):BX fd ⟨us,[]⟩=pure (ps.zip us):=match us,hl with|[a0,a1],_=>h a0 a1
def bd3(h:∀a0 a1 a2,BX fd ⟨[a0,a1,a2],[]⟩=pure (ps.zip [a0,a1,a2]))(us:List AF)(hl:us.length=3):BX fd ⟨us,[]⟩=pure (ps.zip us):=match us,hl with|[a0,a1,a2],_=>h a0 a1 a2
def bd4(h:∀a0 a1 a2 a3,BX fd ⟨[a0,a1,a2,a3],[]⟩=pure (ps.zip [a0,a1,a2,a3]))(us:List AF)(hl:us.length=4):BX fd ⟨us,[]⟩=pure (ps.zip us):=match us,hl with|[a0,a1,a2,a3],_=>h a0 a1 a2 a3
def bd5(h:∀a0 a1 a2 a3 a4,BX fd ⟨[a0,a1,a2,a3,a4],[]⟩=pure (ps.zip [a0,a1,a2,a3,a4]))(us:List AF)(hl:us.length=5):BX fd ⟨us,[]⟩=pure (ps.zip us):=match us,hl with|[a0,a1,a2,a3,a4],_=>h a0 a1 a2 a3 a4
def bd6(h:∀a0 a1 a2 a3 a4 a5,BX fd ⟨[a0,a1,a2,a3,a4,a5],[]⟩=pure (ps.zip [a0,a1,a2,a3,a4,a5]))(us:List AF)(hl:us.length=6):BX fd ⟨us,[]⟩=pure (ps.zip us):=match us,hl with|[a0,a1,a2,a3,a4,a5],_=>h a0 a1 a2 a3 a4 a5
noncomputable abbrev StF(st:BR)(d:Def)(f:Str):Prop:=Stat st d (d.N.take d.np) f f
noncomputable abbrev StM(st:BR)(d:Def)(c m:Str):Prop:=Stat st d (d.N.take d.np) m (c7 c m)
section
variable [Tbs] {K:AO} {mg:Str->Option AF} {h:BC} {f c m:Str} {d:Def} {st:BR} {Ca:AI} {b:Bool} {U:Str->List Str}
def FnA.ok(A:FnA K Tbs.ps b f st)(X:K.In h)(G:h.Ns AN mg)(S:StF st d f:=by exact⟨⟨⟨rfl,rfl,rfl,by decide+kernel,rfl,by decide+kernel,by decide+kernel⟩,rfl,by decide+kernel⟩,λ_ _ _ _ _ _=>by first|exact bd1 λ_=>rfl|exact bd2 λ_ _=>rfl|exact bd3 λ_ _ _=>rfl|exact bd4 λ_ _ _ _=>rfl|exact bd5 λ_ _ _ _ _=>rfl|exact bd6 λ_ _ _ _ _ _=>rfl|exact bd0 rfl⟩)(hb:(d.N.contains r9=AC->b=AC):=by decide+kernel):DefOk K mg f d:=by
 obtain⟨fa,od,an,sl,oc,kV,dc,pm,cd,ct,a1,l1,c1,k1,m1⟩:=A;exact cw1 X G S a1 l1 c1 k1 λz=>m1 (hb z)
def MtA.ok(A:MtA K Tbs.ps b c Ca m st)(C:ClA K c Ca)(X:K.In h)(G:h.Ns AN mg)(S:StM st d c m:=by exact⟨⟨⟨rfl,rfl,rfl,by decide+kernel,rfl,by decide+kernel,by decide+kernel⟩,rfl,by decide+kernel⟩,λ_ _ _ _ _ _=>by first|exact bd1 λ_=>rfl|exact bd2 λ_ _=>rfl|exact bd3 λ_ _ _=>rfl|exact bd4 λ_ _ _ _=>rfl|exact bd5 λ_ _ _ _ _=>rfl|exact bd6 λ_ _ _ _ _ _=>rfl|exact bd0 rfl⟩)(hb:(d.N.contains r9=AC->b=AC):=by decide+kernel)(hdf:A7 U (c7 c m)=AE:=by decide+kernel)(h1:isM c=AG:=by decide+kernel)(h2:isM m=AG:=by decide+kernel)(he:f=c7 c m:=by decide+kernel):∃c m,f=c7 c m∧isM c=AG∧isM m=AG∧MthOk K mg (A7 U (c7 c m)) c m d:=by
 obtain⟨fa,od,an,sl,oc,kV,dc,pm,cd,ct,a1,M,l1,c1,m1⟩:=A;subst he;exact⟨c,m,rfl,h1,h2,co4 X G S a1 C.a C.cl M (λz=>by subst z;exact⟨C.ms,M.at_,M.fn,C.kp⟩) l1 c1 (λz=>m1 (hb z)) hdf⟩
def MtD.ok{i:Int}(A:MtD K c Ca m st i)(C:ClA K c Ca)(X:K.In h)(G:h.Ns AN mg)(S:Stat0 st d ps)
  (hbn:∀(T:AI)(kV dc pm:AF)(an:Option AI)(cd ct:AF)(tk:Tok)(s:AJ)(o:Obj)(n:Nat),s.heap.get? T=AA o->o.data=.seq #[.int i tk] n->(∀us:List AF,us.length=ps.length->GM s (Cw m (c7 c m) (x0 st) (u5 st) (l8 st) (.ref T) kV dc pm an cd ct) ⟨us,[]⟩ (ps.zip us))∧∀us:List AF,us.length+1=ps.length->GM s (Cw m (c7 c m) (x0 st) (u5 st) (l8 st) (.ref T) kV dc pm an cd ct) ⟨us,[]⟩ (ps.zip (us++[.int i tk])))
  (hb:(d.N.contains r9=AG):=by decide+kernel) (hdf:A7 U (c7 c m)=AA i:=by decide+kernel) (h1:isM c=AG:=by decide+kernel) (h2:isM m=AG:=by decide+kernel) (hn:m≠"__init__":=by decide+kernel) (he:f=c7 c m:=by decide+kernel):∃c m,f=c7 c m∧isM c=AG∧isM m=AG∧MthOk K mg (A7 U (c7 c m)) c m d:=by
 obtain⟨fa,T,od,an,td,sl,tsl,oc,kV,dc,pm,cd,ct,tc,tk,n,a1,M,l1,c1,t1⟩:=A;subst he;exact⟨c,m,rfl,h1,h2,ce9 X G S (λs o n=>hbn T kV dc pm an cd ct tk s o n) a1 C.a C.cl M (λz=>absurd z hn) l1 c1 t1 (λz=>by rw[hb]at z;cases z) hdf⟩
end
def i6{α β:Type}{P:α->β->Prop}{a:α}{b:β}{l:List (α×β)}(h:P a b)(t:∀f d,(f,d)∈l->P f d):∀f d,(f,d)∈(a,b)::l->P f d:=λf d hx=>(AM.1 hx).elim (λe=>by cases e;exact h) (t f d)
def bo1{α β:Type}{P:α->β->Prop}:∀f d,(f,d)∈([]:List (α×β))->P f d:=nofun
end Ek
namespace Ek
open PySem L2
set_option hygiene false
local macro_rules | `(tactic| walk_at "ek")=>`(tactic| try simp only [bq1,bm7,be4,bp0,bt1,bj6,bq2,be6,bp4,a80,bh7,bg4,bm2,bj5,bs7,an5,an7,e_v,bl3,bk2,bk4,bn6,bn0,bk8,bh8,bo5,bq5,bk7,bj4,bu1,bu3,bl6,bm8,a73,a59,a70,bm4,az4,a83,a58,bi8,az3,a66,a98,a07,bi1,a89,a00,be5,bh9,bn9,bo4,a96,bl2,bg7,a76,bp9,bi7,bt4,a50,bl7,bc5,bk1,ay6,ai5,bs2,a87,bh6,bm5,bc3,ba9,bg2,be8,bk9,bn2,bp1,a77,bk0,bp3,bc9,bo6,a93,bq3,bn8,bd9,a97,be7,bf3,a91,bo2,bp7,bf7,bc7,bc8,bp8,br0,bu5,bu6,bq7,bq8,bt0,bk3,bs8,bl9,bf0,bo7,bg9,bu4,br3,br6,or_false,false_or,bf6,bc6,bb1,bh4,am8,bg3,bh1,bm9,ab3,bm3,ao3,bp6,bl5,ab4,T3,bn4,bm6,bk5,bo9,ap9,bo0,↓bs0,↓bu2,↓br1,↓bs3,bt9,bk6,ac9,br9,br7,bt2,bt7,bl4,bb5,bo3,bn5,be1,a54,ax3,bf9,ba3,bi4,bg5,bg6,as7,at5,bj9,bd7,List.set_cons_zero,List.set_cons_succ,List.getElem?_cons_zero,List.getElem?_cons_succ,decide_eq_true_eq,not_eq_true',decide_eq_false_iff_not,if_true,if_false,true_and,and_true,false_eq_true,Bool.true_eq_false,length_cons,length_nil,String.reduceEq,decide_true,decide_false,Bool.not_true,Bool.not_false])
set_option hygiene true
set_option hygiene false
local macro_rules | `(tactic| walk_at "es")=>`(tactic| ((try dsimp only);(first | refine bq9 ?_ | rw [bj3]);walk_at "ek"))
set_option hygiene true
variable{P:i8}{G:Gs}{n:Nat}{st:Sto}{Q:DK}{a:AI}{L:List AI}
structure PB0(P:i8):Prop where
 mixed:P "_law_mixed"=AA ag5
 deck:P "_law_deck"=AA E8
 next:P "_law_next"=AA ah2
 power:P "_law_power"=AA ah1
 count:P "_law_count"=AA X8
 kind:P "_law_kind"=AA G4
structure PB(P:i8):Prop extends PB0 P where
 least:P "_law_least"=AA P5
 made:P "_law_made"=AA L5
 nest:P "_law_nest"=AA Y0
 asked:P "_law_asked"=AA N0
 grown:P "_law_grown"=AA P6
 inner:P "_law_inner"=AA ag7
 parts:P "_law_parts"=AA ag9
 program:P "_law_program"=AA af8
 names:P "_law_names"=AA E7
section
variable (B:PB0 P) 
include B
def ax7(c k:Int)(q:∀i,Q (.int i) st):sem P G (n+1) "_law_mixed" [.int c,.int k] st Q:=by
 refine g9 B.mixed rfl [AA (.int c),AA (.int k),AE] rfl ?_;unfold ag5;dsimp only;walk_at "es";refine⟨by decide,aa9 ⟨by decide,by decide⟩,Q9 ⟨by decide,by decide⟩,by decide,?_⟩;walk_at "es";have e0:∀z:Int,0<=z % 2147483629∧z % 2147483629<2147483629:=λz=>⟨JC _ (by decide),II _ (by decide)⟩;refine⟨⟨by decide,by decide⟩,Q9 (by have:=e0 (c % 2147483629*48271+7919*k+13);lia),Q9 ⟨by decide,by decide⟩,by decide,?_⟩;walk_at "es";refine⟨aa9 ⟨by decide,by decide⟩,⟨by decide,by decide⟩,by decide,c0 (q _)⟩
def B0{m:Int}(hm:0<m)(h:r8 st a)(q:∀r st',0<=r->r<m->r8 st' a->Kp [a] st st'->Q (.int r) st'):sem P G (n+1) "_law_next" [.ref a,.int m] st Q:=by
 obtain⟨l,h⟩:=h;refine g9 B.next rfl [AA (.ref a),AA (.int m)] rfl ?_;unfold ah2;dsimp only;walk_at "es";rw[u0 (.inl h)];walk_at "ek";cases l with
 |nil=>
  rw[if_pos (by simp)];walk_at "es";exact c0 (q 0 st (KP _) hm ⟨[],h⟩ Kp.refl)
 |cons x l=>
  rw[if_neg (by simp only[Aa,AW];lia)];walk_at "es";rw[v4 (.inl h)];refine⟨trivial,⟨by decide,by decide⟩,_,0,.int x,h,by simp[ixN],rfl,?_⟩;simp only[am8];refine⟨hm,c0 (q _ _ (JC _ (by lia)) (II _ hm) ⟨l,?_⟩ (Kp.refl.put (by simp)))⟩;rw[c9];rfl
def b77{b:Int}{t:Nat}(hb:0<=b∧b<2^64)(ht:t<2^62)(q:Q (.int (b^t)) st):sem P G (n+1) "_law_power" [.int b,.int t] st Q:=by
 refine g9 B.power rfl [AA (.int b),AA (.int t),AE,AE] rfl ?_;unfold ah1;dsimp only;walk_at "es";walk_at "es";refine⟨by lia,?_⟩;refine A9 (λl env st'=>st'=st∧∃(f:Int)(x:Option D),env=[AA (.int b),AA (.int t),AA (.int f),x]∧f*b^l.length=b^t) ?_ ?_ _ _ _ ⟨rfl,1,AE,rfl,by simp[t0]⟩
 ·rintro env st' ⟨rfl,f,x,rfl,e⟩;refine⟨trivial,?_⟩;walk_at "es";have:f=b^t:=by rw[<-e];simp
  rw[this];exact c0 q
 ·rintro d ds env st' ih ⟨rfl,f,x,rfl,e⟩;refine⟨trivial,?_⟩;walk_at "ek";walk_at "es";refine⟨aa9 ⟨by lia,by lia⟩,ih _ _ ⟨rfl,_,_,rfl,?_⟩⟩;rw[<-e,AW,Jy,Int.mul_assoc,Int.mul_comm b]
def G6:∀(k:Kd){m n:Nat}{Q:DK},k.nest+2<=n->(∀a b,k=.eith a b∨k=.both a b∨k=.way a b->a.bd m∧b.bd m)->m<2^62->Q (.int k.cnt) st->sem P G n "_law_count" [k.d] st Q:=by
 have leaf:∀(w:String)(n:Nat)(Q:DK),Q (.int (if w="one" then 1 else 0)) st->sem P G (n+1) "_law_count" [.tup [.str w]] st Q:=λw n Q q=>by
  refine g9 B.count rfl [AA (.tup [.str w]),AE,AE] rfl ?_;unfold X8;dsimp only;walk_at "es";rw[if_pos (by decide)];walk_at "es";exact c0 q
 have node:∀(w:String)(a b:Kd)(n m:Nat)(Q:DK)(v:Nat),(∀Q:DK,Q (.int a.cnt) st->sem P G n "_law_count" [a.d] st Q)->(∀Q:DK,Q (.int b.cnt) st->sem P G n "_law_count" [b.d] st Q)->a.bd m->b.bd m->m<2^62->0<n ->
   (n8 [("either",.int (a.cnt+b.cnt)),("both",.int (a.cnt*b.cnt)),("way",.int ((b.cnt:Int)^a.cnt))] w=AA (.int v))->Q (.int v) st->sem P G (n+1) "_law_count" [.tup [.str w,a.d,b.d]] st Q:=λw a b n m Q v ha hb ba bb hm hn hl q=>by
  obtain⟨n,rfl⟩:∃k,n=k+1:=⟨n-1,by lia⟩;have la:=Kd.bd_le ba;have lb:=Kd.bd_le bb;refine g9 B.count rfl [AA (.tup [.str w,a.d,b.d]),AE,AE] rfl ?_;unfold X8;dsimp only;walk_at "es";rw[if_neg (by decide)];walk_at "es";refine⟨by rw[B.count];rfl,ha _ ?_⟩;walk_at "es";refine⟨by rw[B.count];rfl,hb _ ?_⟩;walk_at "es";refine⟨aa9 ⟨by lia,by lia⟩,by rw[B.power];rfl,b77 B ⟨by lia,by lia⟩ (by lia) ?_⟩;walk_at "ek";exact⟨_,hl,c0 q⟩
 intro k
 induction k with
 |non=>intro m n Q hn _ _ q;obtain⟨n,rfl⟩:∃k,n=k+1:=⟨n-1,by lia⟩;exact leaf "none" n Q q
 |one=>intro m n Q hn _ _ q;obtain⟨n,rfl⟩:∃k,n=k+1:=⟨n-1,by lia⟩;exact leaf "one" n Q q
 |eith a b iha ihb=>
  intro m n Q hn hs hm q;obtain⟨n,rfl⟩:∃k,n=k+1:=⟨n-1,by lia⟩;have⟨ba,bb⟩:=hs a b (.inl rfl);simp only[Kd.nest]at hn;exact node "either" a b n m Q _ (λQ q=>iha (by lia) (λc d e=>by rcases e with e|e|e<;>(subst e;exact⟨ba.1,ba.2.1⟩)) hm q) (λQ q=>ihb (by lia) (λc d e=>by rcases e with e|e|e<;>(subst e;exact⟨bb.1,bb.2.1⟩)) hm q) ba bb hm (by lia) rfl q
 |both a b iha ihb=>
  intro m n Q hn hs hm q;obtain⟨n,rfl⟩:∃k,n=k+1:=⟨n-1,by lia⟩;have⟨ba,bb⟩:=hs a b (.inr (.inl rfl));simp only[Kd.nest]at hn;exact node "both" a b n m Q _ (λQ q=>iha (by lia) (λc d e=>by rcases e with e|e|e<;>(subst e;exact⟨ba.1,ba.2.1⟩)) hm q) (λQ q=>ihb (by lia) (λc d e=>by rcases e with e|e|e<;>(subst e;exact⟨bb.1,bb.2.1⟩)) hm q) ba bb hm (by lia) rfl q
 |way a b iha ihb=>
  intro m n Q hn hs hm q;obtain⟨n,rfl⟩:∃k,n=k+1:=⟨n-1,by lia⟩;have⟨ba,bb⟩:=hs a b (.inr (.inr rfl));simp only[Kd.nest]at hn;exact node "way" a b n m Q _ (λQ q=>iha (by lia) (λc d e=>by rcases e with e|e|e<;>(subst e;exact⟨ba.1,ba.2.1⟩)) hm q) (λQ q=>ihb (by lia) (λc d e=>by rcases e with e|e|e<;>(subst e;exact⟨bb.1,bb.2.1⟩)) hm q) ba bb hm (by lia) rfl q
end
section
variable (B:PB P) 
include B
def cd1:∀(k:Kd){n:Nat}{Q:DK},k.nest+1<=n->Q (.int k.nest) st->sem P G n "_law_nest" [k.d] st Q:=by
 have leaf:∀(w:String)(n:Nat)(Q:DK),Q (.int 0) st->sem P G (n+1) "_law_nest" [.tup [.str w]] st Q:=λw n Q q=>by
  refine g9 B.nest rfl [AA (.tup [.str w])] rfl ?_;unfold Y0;dsimp only;walk_at "es";rw[if_pos (by decide)];walk_at "es";exact c0 q
 have node:∀(w:String)(a b:Kd)(n:Nat)(Q:DK),(∀Q:DK,Q (.int a.nest) st->sem P G n "_law_nest" [a.d] st Q)->(∀Q:DK,Q (.int b.nest) st->sem P G n "_law_nest" [b.d] st Q) ->
   Q (.int (1+max a.nest b.nest:Nat)) st->sem P G (n+1) "_law_nest" [.tup [.str w,a.d,b.d]] st Q:=λw a b n Q ha hb q=>by
  refine g9 B.nest rfl [AA (.tup [.str w,a.d,b.d])] rfl ?_;unfold Y0;dsimp only;walk_at "es";rw[if_neg (by decide)];walk_at "es";refine⟨by rw[B.nest];rfl,ha _ ⟨by rw[B.nest];rfl,hb _ ?_⟩⟩;walk_at "ek";refine c0 ?_;have e:(1+if(b.nest:Int)>a.nest then(b.nest:Int)else a.nest)=((1+max a.nest b.nest:Nat):Int):=by split<;>lia
  rw[e];exact q
 intro k
 induction k with
 |non=>intro n Q hn q;obtain⟨n,rfl⟩:∃k,n=k+1:=⟨n-1,by lia⟩;exact leaf "none" n Q q
 |one=>intro n Q hn q;obtain⟨n,rfl⟩:∃k,n=k+1:=⟨n-1,by lia⟩;exact leaf "one" n Q q
 |eith a b iha ihb|both a b iha ihb|way a b iha ihb=>
  intro n Q hn q;obtain⟨n,rfl⟩:∃k,n=k+1:=⟨n-1,by lia⟩;simp only[Kd.nest]at hn;exact node _ a b n Q (λQ q=>iha (by lia) q) (λQ q=>ihb (by lia) q) q
end
section
variable (B:PB0 P) 
include B
def aa4{most:Nat}(h1:1<=most)(h2:most<=100):∀(deep:Nat){n:Nat}{st:Sto}{Q:DK},deep+4<=n->r8 st a->(∀(k:Kd)st',k.good->k.bd most->k.nest<=deep->r8 st' a->Kp [a] st st'->Q k.d st')->sem P G n "_law_kind" [.ref a,.int deep,.int most] st Q:=by
 intro deep
 induction deep with
 |zero=>
  intro n st Q hn I q;obtain⟨n,rfl⟩:∃k,n=k+2:=⟨n-2,by lia⟩;refine g9 B.kind rfl [AA (.ref a),AA (.int (0:Nat)),AA (.int most),AE,AE,AE,AE] rfl ?_;unfold G4;dsimp only;walk_at "es";refine⟨by rw[B.next];rfl,λp hp=>⟨.int 1,rfl,B0 B (by decide) (I.new hp) λr st1 r0 r1 I1 K1=>?_⟩⟩;have e:r=0:=by lia
  subst e;walk_at "es";walk_at "es";intro p1 hp1;walk_at "ek";exact c0 (q .one _ trivial h1 (BU _) (I1.new hp1) (((Kp.refl.new hp).trans K1).new hp1))
 |succ deep ih=>
  intro n st Q hn I q;obtain⟨n,rfl⟩:∃k,n=k+2:=⟨n-2,by lia⟩;refine g9 B.kind rfl [AA (.ref a),AA (.int (deep+1:Nat)),AA (.int most),AE,AE,AE,AE] rfl ?_;unfold G4;dsimp only;walk_at "es";have hd:(0:Int)<((deep+1:Nat):Int):=by lia
  simp only[hd,if_true];refine⟨by rw[B.next];rfl,λp hp=>⟨.int 6,rfl,B0 B (by decide) (I.new hp) λr st1 r0 r1 I1 K1=>?_⟩⟩;have K1:=(Kp.refl.new hp).trans K1;clear hp;walk_at "es"
  by_cases e0:r=0
  ·subst e0;simp only[if_true];walk_at "es";intro p1 hp1;walk_at "ek";exact c0 (q .one _ trivial h1 (BU _) (I1.new hp1) (K1.new hp1))
  simp only[e0,if_false]
  by_cases e5:r=5
  ·subst e5;simp only[if_true];walk_at "es";intro p1 hp1
   by_cases hm:(1:Int)<most
   ·walk_at "ek";simp only[hm,if_true];walk_at "ek";exact c0 (q (.eith .one .one) _ (.inl ⟨trivial,trivial⟩) ⟨h1,h1,by show 1+1<=most;lia⟩ (by show 1+max 0 0<=_;lia) (I1.new hp1) (K1.new hp1))
   ·walk_at "ek";simp only[hm,if_false];walk_at "ek";exact c0 (q .one _ trivial h1 (BU _) (I1.new hp1) (K1.new hp1))
  simp only[e5,if_false];walk_at "ek";walk_at "es";intro p1 hp1;have I2:=I1.new (u:=.lst [.str "either",.str "both",.str "way",.str "either"]) hp1;have K2:=K1.new (o:=.lst [.str "either",.str "both",.str "way",.str "either"]) hp1;revert I2 K2;generalize b0 st1 p1 (.lst [.str "either",.str "both",.str "way",.str "either"])=st2;intro I2 K2;obtain⟨w,hw,hws⟩:∃w:String,atI [D.str "either",.str "both",.str "way",.str "either"] (r-1)=AA (.str w)∧(w="either"∨w="both"∨w="way"):=by
   obtain rfl|rfl|rfl|rfl:r=1∨r=2∨r=3∨r=4:=by lia
   ·exact⟨"either",rfl,by simp⟩
   ·exact⟨"both",rfl,by simp⟩
   ·exact⟨"way",rfl,by simp⟩
   ·exact⟨"either",rfl,by simp⟩
  rw[hw];walk_at "ek";walk_at "es";have ed:((deep+1:Nat):Int)-1=(deep:Nat):=by lia
  rw[ed];refine⟨by rw[B.kind];rfl,ih (by lia) I2 λka st3 ga ba na I3 K3=>?_⟩;have K3:=K2.trans K3;walk_at "es";rw[ed];refine⟨by rw[B.kind];rfl,ih (by lia) I3 λkb st4 gb bb nb I4 K4=>?_⟩;have K4:=K3.trans K4;walk_at "es";have fin:∀(w:String)(ka kb k:Kd)(st5:Sto)(x:Option D),k.d=.tup [.str w,ka.d,kb.d]->(w≠"way"->k.good)->(w="way"->k=.way ka kb∧(ka.good∨ka=.non)∧kb.good)->(∀c d,k=.eith c d∨k=.both c d∨k=.way c d->c=ka∧d=kb)->k≠.non->k≠.one->ka.bd most->kb.bd most->ka.nest<=deep->kb.nest<=deep->r8 st5 a->Kp [a] st st5 ->
    f8 (Zg P G (n+1)) (G4.body.drop 6) (j8 Q) [AA (.ref a),AA (.int (deep+1:Nat)),AA (.int most),AA (.int r),AA (.str w),AA ka.d,AA kb.d] st5:=by
   intro w ka kb k st5 x hk hg hw hc hn0 hn1 ba bb na nb I5 K5;have nk:∀k:Kd,(∀c d,k=.eith c d∨k=.both c d∨k=.way c d->c.nest<=deep∧d.nest<=deep)->k.nest<=deep+1:=λk h=>by
    cases k with
    |non=>exact BU _
    |one=>exact BU _
    |eith c d=>have:=h c d (.inl rfl);simp only[Kd.nest];lia
    |both c d=>have:=h c d (.inr (.inl rfl));simp only[Kd.nest];lia
    |way c d=>have:=h c d (.inr (.inr rfl));simp only[Kd.nest];lia
   have last:∀(ka kb k:Kd),k.d=.tup [.str w,ka.d,kb.d]->k.good->(∀c d,k=.eith c d∨k=.both c d∨k=.way c d->c=ka∧d=kb)->k≠.non->k≠.one->ka.bd most->kb.bd most->ka.nest<=deep->kb.nest<=deep ->
     f8 (Zg P G (n+1)) (G4.body.drop 7) (j8 Q) [AA (.ref a),AA (.int (deep+1:Nat)),AA (.int most),AA (.int r),AA (.str w),AA ka.d,AA kb.d] st5:=by
    intro ka kb k hk hg hc hn0 hn1 ba bb na nb;have nk':=nk k λc d e=>by obtain⟨e1,e2⟩:=hc c d e;subst e1 e2;exact⟨na,nb⟩
    simp only[G4,Ss.drop];walk_at "es";rw[<-hk];refine⟨by rw[B.count];rfl,G6 B k (m:=most) (by lia) (λc d e=>by obtain⟨e1,e2⟩:=hc c d e;subst e1 e2;exact⟨ba,bb⟩) (by lia) ?_⟩;walk_at "ek"
    by_cases hgt:(most:Int)<k.cnt
    ·simp only[hgt,if_true];walk_at "es";exact c0 (q .one _ trivial h1 (BU _) I5 K5)
    ·simp only[hgt,if_false];walk_at "es";rw[<-hk];refine c0 (q k _ hg ?_ nk' I5 K5);cases k with
     |non=>exact absurd rfl hn0
     |one=>exact absurd rfl hn1
     |eith c d=>obtain⟨e1,e2⟩:=hc c d (.inl rfl);subst e1 e2;exact⟨ba,bb,by have:=hgt;simp only[Kd.cnt]at this;lia⟩
     |both c d=>obtain⟨e1,e2⟩:=hc c d (.inr (.inl rfl));subst e1 e2;exact⟨ba,bb,by have:=hgt;simp only[Kd.cnt]at this;lia⟩
     |way c d=>obtain⟨e1,e2⟩:=hc c d (.inr (.inr rfl));subst e1 e2;exact⟨ba,bb,by have:=hgt;simp only[Kd.cnt]at this;lia⟩
   by_cases ew:w="way"
   ·obtain⟨rfl,gka,gkb⟩:=hw ew;subst ew;simp only[G4,Ss.drop];walk_at "es";refine⟨by rw[B.count];rfl,G6 B ka (m:=most) (by lia) (λc d e=>by rcases e with e|e|e<;>(subst e;exact⟨ba.1,ba.2.1⟩)) (by lia) ?_⟩;walk_at "ek"
    by_cases h6:(6:Int)<ka.cnt
    ·simp only[h6,if_true];walk_at "es";exact last .one kb (.way .one kb) rfl ⟨.inl trivial,gkb,by decide⟩ (λc d e=>by rcases e with e|e|e<;>cases e;exact⟨rfl,rfl⟩) (by simp) (by simp) h1 bb (BU _) nb
    ·simp only[h6,if_false];exact last ka kb (.way ka kb) rfl ⟨gka,gkb,by lia⟩ hc hn0 hn1 ba bb na nb
   ·simp only[G4,Ss.drop];walk_at "es";simp only[ew,if_false];exact last ka kb k hk (hg ew) hc hn0 hn1 ba bb na nb
  rcases hws with rfl|rfl|rfl
  ·walk_at "ek";refine⟨by rw[B.next];rfl,B0 B (by decide) I4 λr5 st5 _ _ I5 K5=>?_⟩;have K5:=K4.trans K5;walk_at "ek"
   by_cases h1:r5=1
   ·simp only[h1,if_true];walk_at "es";exact fin "either" .non kb (.eith .non kb) st5 AE rfl (λ_=>.inr (.inl ⟨rfl,gb⟩)) (λh=>absurd h (by decide)) (λc d e=>by rcases e with e|e|e<;>cases e;exact⟨rfl,rfl⟩) (by simp) (by simp) trivial bb (BU _) nb I5 K5
   ·simp only[h1,if_false];walk_at "es";refine⟨by rw[B.next];rfl,B0 B (by decide) I5 λr6 st6 _ _ I6 K6=>?_⟩;have K6:=K5.trans K6;walk_at "ek"
    by_cases h1:r6=1
    ·simp only[h1,if_true];walk_at "es";exact fin "either" ka .non (.eith ka .non) st6 AE rfl (λ_=>.inr (.inr ⟨ga,rfl⟩)) (λh=>absurd h (by decide)) (λc d e=>by rcases e with e|e|e<;>cases e;exact⟨rfl,rfl⟩) (by simp) (by simp) ba trivial na (BU _) I6 K6
    ·simp only[h1,if_false];walk_at "ek";exact fin "either" ka kb (.eith ka kb) st6 AE rfl (λ_=>.inl ⟨ga,gb⟩) (λh=>absurd h (by decide)) (λc d e=>by rcases e with e|e|e<;>cases e;exact⟨rfl,rfl⟩) (by simp) (by simp) ba bb na nb I6 K6
  ·walk_at "ek";walk_at "es";exact fin "both" ka kb (.both ka kb) st4 AE rfl (λ_=>⟨ga,gb⟩) (λh=>absurd h (by decide)) (λc d e=>by rcases e with e|e|e<;>cases e;exact⟨rfl,rfl⟩) (by simp) (by simp) ba bb na nb I4 K4
  ·walk_at "ek";refine⟨by rw[B.next];rfl,B0 B (by decide) I4 λr5 st5 _ _ I5 K5=>?_⟩;have K5:=K4.trans K5;walk_at "ek"
   by_cases h1:r5=1
   ·simp only[h1,if_true];walk_at "es";exact fin "way" .non kb (.way .non kb) st5 AE rfl (λh=>absurd rfl h) (λ_=>⟨rfl,.inr rfl,gb⟩) (λc d e=>by rcases e with e|e|e<;>cases e;exact⟨rfl,rfl⟩) (by simp) (by simp) trivial bb (BU _) nb I5 K5
   ·simp only[h1,if_false];walk_at "es";exact fin "way" ka kb (.way ka kb) st5 AE rfl (λh=>absurd rfl h) (λ_=>⟨rfl,.inl ga,gb⟩) (λc d e=>by rcases e with e|e|e<;>cases e;exact⟨rfl,rfl⟩) (by simp) (by simp) ba bb na nb I5 K5
end
def aj6{ns:List Int}{lo hi:Option Int}:∃ms:List Int,z8 (ns.map D.int) lo hi=ms.map D.int∧ms.length<=ns.length:=by
 refine⟨(ns.drop (HT.sIx (ns.map D.int).length 0 lo)).take (HT.sIx (ns.map D.int).length (ns.map D.int).length hi-HT.sIx (ns.map D.int).length 0 lo),by unfold z8;rw[JN,JO],?_⟩;rw[DD,EN];lia
def ar9{lo:Int}:(t0 lo n).length=n:=by simp[t0]
def cw3{b:Int}{k:Nat}(h:0<b):0<b^k:=by
 induction k with
 |zero=>rw[Int.pow_zero];decide
 |succ k ih=>rw[Jy];exact Int.mul_pos ih h
def b19(ms:List Int)(i:Nat):o6 i (ms.map D.int)=(ms.zipIdx i).map λp=>D.tup [.int (p.2:Nat),.int p.1]:=by
 induction ms generalizing i with
 |nil=>rfl
 |cons m ms ih=>simp only[Aa,o6,ih,List.zipIdx_cons]
section
variable (B:PB0 P) 
include B
def ch3{ns:List Int}(hn:2<=n)(hl:ns.length<=63)(h:rdS st a (ns.map D.int))(q:∀p st',r8 st' p->Kp [] st st'->Q (.ref p) st'):sem P G n "_law_deck" [.ref a] st Q:=by
 obtain⟨n,rfl⟩:∃m,n=m+2:=⟨n-2,by lia⟩;refine g9 B.deck rfl [AA (.ref a),AE,AE,AE,AE,AE] rfl ?_;unfold E8;walk_at "es";intro p hp;have hpa:a≠p:=h.elim (λh=>j7 h hp) (λh=>j7 h hp);walk_at "es";have h1:rdS (b0 st p (.lst [])) a (ns.map D.int):=h.elim (λh=>.inl (j6 h hp)) (λh=>.inr (j6 h hp));rw[aq4 h1];obtain⟨ms,em,hms⟩:=aj6 (ns:=ns) (lo:=AE) (hi:=AA 63);rw[em];intro s hs;have hsp:p≠s:=j7 c9 hs;have hsa:s≠a:=λz=>by subst z;exact h1.elim (λh=>absurd rfl (j7 h hs)) (λh=>absurd rfl (j7 h hs))
 walk_at "ek";refine⟨_,M7,?_⟩;rw[b19];refine A9 (λl env st'=>∃(js:List (Int×Nat))(dk:List Int)(x2 x3 x4 x5:Option D),l=js.map (λp=>D.tup [.int (p.2:Nat),.int p.1])∧env=[AA (.ref a),AA (.ref p),x2,x3,x4,x5]∧st' p=AA (.lst (dk.map D.int))∧dk.length+67*js.length<=67*63∧rdS st' s (ms.map D.int)∧rdS st' a (ns.map D.int)∧Kp [] st st') ?_ ?_ _ _ _ ?_
 ·rintro env st' ⟨js,dk,x2,x3,x4,x5,el,rfl,hd,hb,hrs,hra,K⟩;refine⟨hrs,?_⟩;walk_at "es";rw[u0 (.inl hd)];walk_at "ek";simp only[AV];refine⟨by lia,?_⟩;refine A9 (λl env st'=>∃(dk:List Int)(x2 x3 x4 x5:Option D),(∀d∈l,∃i:Int,d=.int i)∧env=[AA (.ref a),AA (.ref p),x2,x3,x4,x5]∧st' p=AA (.lst (dk.map D.int))∧dk.length+l.length<=10000∧rdS st' a (ns.map D.int)∧Kp [] st st') ?_ ?_ _ _ _ ⟨dk,_,_,_,_,λd hd=>by simp only[t0,Ce]at hd;obtain⟨i,_,rfl⟩:=hd;exact⟨_,rfl⟩,rfl,hd,by rw[ar9];lia,hra,K⟩
  ·rintro env st' ⟨dk,x2,x3,x4,x5,el,rfl,hd,hb,hra,K⟩;refine⟨trivial,?_⟩;walk_at "es";rw[aq4 (.inl hd)];intro r hr;obtain⟨ks,ek,_⟩:=aj6 (ns:=dk) (lo:=AE) (hi:=AA 900);rw[ek];exact c0 (q r _ ⟨ks,c9⟩ (K.new hr))
  ·rintro d ds env st' ih ⟨dk,x2,x3,x4,x5,el,rfl,hd,hb,hra,K⟩;obtain⟨i,rfl⟩:=el d (by simp);simp only[AW]at hb;refine⟨trivial,?_⟩;walk_at "ek";walk_at "es";rw[v4 (.inl hd),aq4 hra];obtain⟨ks,ek,_⟩:=aj6 (ns:=ns) (lo:=AE) (hi:=AA 63);rw[ek];refine⟨trivial,by rw[B.mixed];rfl,λr hr=>cw9 M7 ?_⟩;walk_at "ek";refine ax7 B _ _ λm=>?_;rw[A4 (j6 hd hr)];refine⟨A0 (by simp only[AV];lia),?_⟩;have hpr:p≠r:=j7 hd hr;refine ih _ _ ⟨dk++[m],_,_,_,_,λd hd=>el d (by simp[hd]),rfl,by rw[c9,Ag];rfl,by simp only[Ac,AW,BQ];lia,?_,?_⟩
   ·exact hra.elim (λh=>.inl (c8 (j6 h hr) hpa)) (λh=>.inr (c8 (j6 h hr) hpa))
   ·intro b o nb e;exact c8 (j6 (K b o nb e) hr) (j7 e hp)
 ·rintro d ds env st' ih ⟨js,dk,x2,x3,x4,x5,el,rfl,hd,hb,hrs,hra,K⟩;refine⟨hrs,?_⟩;cases js with
  |nil=>simp at el
  |cons j js=>
   simp only[Aa,Ah]at el;obtain⟨rfl,rfl⟩:=el;simp only[AW]at hb;obtain⟨c,k⟩:=j;walk_at "ek";walk_at "es";refine⟨⟨by decide,by decide,by decide⟩,cw3 (by decide),?_⟩;have inn:∀(dk:List Int)(num:Int)(st':Sto),st' p=AA (.lst (dk.map D.int))->dk.length+60+67*js.length<=67*63->rdS st' s (ms.map D.int)->rdS st' a (ns.map D.int)->Kp [] st st' ->
     f8 (Zg P G (n+1)) (match E8.body.drop 1 with|.cons (.for _ _ b) _=>b.drop 2|_=>.nil) ⟨p7 (λst'=>rdS st' s (ms.map D.int)) (.tup [2,3]) (f8 (Zg P G (n+1)) (match E8.body.drop 1 with|.cons (.for _ _ b) _=>b|_=>.nil)) ⟨f8 (Zg P G (n+1)) (E8.body.drop 2) (j8 Q),(j8 Q).rt,(j8 Q).bk,(j8 Q).ct⟩ (js.map (λp=>D.tup [.int (p.2:Nat),.int p.1])),(j8 Q).rt,f8 (Zg P G (n+1)) (E8.body.drop 2) (j8 Q),p7 (λst'=>rdS st' s (ms.map D.int)) (.tup [2,3]) (f8 (Zg P G (n+1)) (match E8.body.drop 1 with|.cons (.for _ _ b) _=>b|_=>.nil)) ⟨f8 (Zg P G (n+1)) (E8.body.drop 2) (j8 Q),(j8 Q).rt,(j8 Q).bk,(j8 Q).ct⟩ (js.map (λp=>D.tup [.int (p.2:Nat),.int p.1]))⟩ [AA (.ref a),AA (.ref p),AA (.int (k:Nat)),AA (.int c),AA (.int num),x5] st':=by
    intro dk num st' hd hb hrs hra K;simp only[E8,Ss.drop];walk_at "es";refine⟨by decide,?_⟩;refine A9 (λl env st'=>∃(dk:List Int)(num:Int)(x5:Option D),env=[AA (.ref a),AA (.ref p),AA (.int (k:Nat)),AA (.int c),AA (.int num),x5]∧st' p=AA (.lst (dk.map D.int))∧dk.length+l.length+67*js.length<=67*63∧rdS st' s (ms.map D.int)∧rdS st' a (ns.map D.int)∧Kp [] st st') ?_ ?_ _ _ _ ⟨dk,num,_,rfl,hd,by rw[ar9];exact hb,hrs,hra,K⟩
    ·rintro env st' ⟨dk,num,x5,rfl,hd,hb,hrs,hra,K⟩;refine⟨trivial,?_⟩;walk_at "ek";exact ih _ _ ⟨js,dk,_,_,_,_,rfl,rfl,hd,by simpa using hb,hrs,hra,K⟩
    ·rintro d ds env st' ih2 ⟨dk,num,x5,rfl,hd,hb,hrs,hra,K⟩;refine⟨trivial,?_⟩;simp only[AW]at hb;walk_at "ek";walk_at "es"
     by_cases h0:0<num
     ·simp only[h0,if_true];walk_at "es";rw[v4 (.inl hd)];refine⟨trivial,by decide,?_⟩;rw[A4 hd];refine⟨A0 (by simp only[AV];lia),?_⟩;walk_at "es";refine⟨⟨by decide,by decide⟩,ih2 _ _ ⟨dk++[num % 2147483647],_,_,rfl,by rw[c9,Ag];rfl,by simp only[Ac,AW,BQ];lia,?_,?_,?_⟩⟩
      ·exact hrs.elim (λh=>.inl (c8 h hsp.symm)) (λh=>.inr (c8 h hsp.symm))
      ·exact hra.elim (λh=>.inl (c8 h hpa)) (λh=>.inr (c8 h hpa))
      ·intro b o nb e;exact c8 (K b o nb e) (j7 e hp)
     ·simp only[h0,if_false];walk_at "ek";exact ih2 _ _ ⟨dk,_,_,rfl,hd,by lia,hrs,hra,K⟩
   walk_at "es";refine⟨⟨by decide,by decide,by decide⟩,?_⟩;generalize(if c<0 then -c else c) % (2147483647:Int)^HC 60=num
   by_cases h18:num<10^HC 18
   ·simp only[h18,if_true];walk_at "es";rw[v4 (.inl hd)];refine⟨trivial,by decide,by decide,?_⟩;refine N5 (λl acc env' st''=>st''=st'∧∃(ac:List Int)(x:Option D),(∀d∈l,∃i:Int,d=.int i)∧env'=[AA (.int num),AA (.int (k:Nat)),x]∧acc=ac.map D.int∧ac.length+l.length=7) ?_ ?_ _ _ _ _ ⟨rfl,[],AE,λd hd=>by simp only[t0,Ce]at hd;obtain⟨i,_,rfl⟩:=hd;exact⟨_,rfl⟩,rfl,rfl,by decide⟩
    ·rintro acc env' st'' ⟨rfl,ac,x,_,rfl,rfl,hac⟩;refine⟨trivial,λr hr=>?_⟩;simp only[BQ]at hac;rw[bo8 (j6 hd hr) c9];refine⟨E1 (by simp only[AV];lia),?_⟩;walk_at "es";have hpr:p≠r:=j7 hd hr;refine inn (dk++ac) 0 _ (by rw[c9,Ag]) (by simp only[Ac];lia) ?_ ?_ ?_
     ·exact hrs.elim (λh=>.inl (c8 (j6 h hr) hsp.symm)) (λh=>.inr (c8 (j6 h hr) hsp.symm))
     ·exact hra.elim (λh=>.inl (c8 (j6 h hr) hpa)) (λh=>.inr (c8 (j6 h hr) hpa))
     ·intro b o nb e;exact c8 (j6 (K b o nb e) hr) (j7 e hp)
    ·rintro d ds acc env' st'' ihc ⟨rfl,ac,x,hi,rfl,rfl,hac⟩;obtain⟨i,rfl⟩:=hi d (by simp);refine⟨trivial,?_⟩;walk_at "ek";refine⟨by rw[B.mixed];rfl,Q9 ⟨by decide,by decide⟩,ax7 B _ _ λm=>ihc _ _ _ ⟨rfl,ac++[m],_,λd hd=>hi d (by simp[hd]),rfl,by rw[Ag];rfl,by simp only[Ac,AW,BQ]at hac ⊢;lia⟩⟩
   ·simp only[h18,if_false];exact inn dk num st' hd (by lia) hrs hra K
 ·refine⟨ms.zipIdx 0,[],AE,AE,AE,AE,rfl,rfl,j6 c9 hs,by simp only[List.length_zipIdx,BQ];lia,M7,?_,(Kp.refl.new hp).new hs⟩;exact h1.elim (λh=>.inl (j6 h hs)) (λh=>.inr (j6 h hs))
end
def au6{α:Type}(l:List α):l=[]∨∃l' c,l=l'++[c]:=by
 rcases List.eq_nil_or_concat l with h|⟨l',c,h⟩
 ·exact .inl h
 ·exact .inr ⟨l',c,by rw[h,List.concat_eq_append]⟩
noncomputable def F9(P:i8)(G:Gs)(n:Nat):D->Spec
 |.fn f=>sem P G n f
 |.clo np N b cs=>J9 P G n np N b cs
 |_=>λ_ _ _=>False
noncomputable def Cok(P:i8):D->Prop
 |.fn f=>(P f).isSome=AC
 |.clo _ _ _ _=>True
 |_=>False
def U7{ta:Sto->(List D->Sto->Prop)->Prop}{x:D}(h:Cok P x)(q:ta st λds st1=>F9 P G n x ds st1 Q):S7 (Zg P G n) ta st Q x:=by
 cases x<;>first|exact h.elim|exact⟨h,q⟩|exact q
section
variable {T:Type} (subs:T->List T)
inductive Ord:List T->List T->Prop where
 |nil:Ord [] []
 |cons {S l:List T} {c:T}:Ord (S++subs c) l->Ord (S++[c]) (c::l)
inductive Rn:List T->List T->T->Prop where
 |done (t:T):Rn [] [t] t
 |step {h r:T} {l S:List T}:Rn l (S++[h]) r->Rn (h::l) (S++subs h) r
def bi5{S l:List T}(h:Ord subs S l):∀{l' S0:List T}{r:T},Rn subs l' (S0++S) r->Rn subs (l.reverse++l') S0 r:=by
 induction h with
 |nil=>intro l' S0 r q;simpa using q
 |@cons S l c _ ih=>
  intro l' S0 r q;rw[DJ,CT];refine ih ?_;rw[<-CT];refine .step ?_;rw[CT];exact q
end
def none_of{st':Sto}{p:AI}(K:Kp [] st st')(h:st' p=AE):st p=AE:=by
 cases z:st p with
 |none=>rfl
 |some u=>rw[K.at' z (by simp)]at h;cases h
def aj9{W:Type}{J:W->Sto->Prop}{st':Sto}{p:AI}{s:W}(K:Kp L st st')(hL:∀a∈L,∃o,st a=AA o)(h:st' p=AE)(Js:J s st')(hJL:∀{s st},J s st->∀a∈L,∃o,st a=AA o):st p=AE:=by
 cases z:st p with
 |none=>rfl
 |some u=>
  by_cases hp:p∈L
  ·obtain⟨o,e⟩:=hJL Js p hp;rw[h]at e;cases e
  ·rw[K.at' z hp]at h;cases h
noncomputable def am6(st st':Sto)(d:D)(xs:List D):Prop:=d=.tup xs∨∃a,d=.ref a∧st a=AE∧st' a=AA (.lst xs)
theorem Q3{T:Type}(f:T->Nat):∀{l:List T}{c:T},c∈l->f c<=(l.map f).sum
 |a::l,c,h=>by
  rw[Aa,Di]
  rcases AM.mp h with rfl|h
  ·lia
  ·have:=Q3 f h;lia
theorem Z9{T:Type}{size:T->Nat}{subs:T->List T}(hsz:∀t,size t=1+((subs t).map size).sum):∀l:List T,l.length<=(l.map size).sum
 |[]=>by simp
 |a::l=>by have:=hsz a;have:=Z9 hsz l;simp only[Aa,Di,AW];lia
structure PM(P:i8)(G:Gs):Prop where
 mop:P "made_of_parts"=AA X7
 few:P "order_of_few"=AA ae8
 taken:P "taken"=AA ak5
 cst:G.cst "FEW"=AA 2000
section
variable (T0:PM P G) {T:Type} {enc:T->D} {subs:T->List T} {size:T->Nat} {DQ:T->Prop}
include T0
def bf5{W:Type}{J:W->Sto->Prop}{le:W->W->Prop}(lr:∀s,le s s)(lt:∀{s t u},le s t->le t u->le s u)(hJ:∀{s st st' dn},J s st->dn∉L->Kp [dn] st st'->J s st'){s0:W}{μ:W->Nat}{B:Nat}(j0:J s0 st)(hJL:∀{s st},J s st->∀a∈L,∃o,st a=AA o)(hsz:∀t,size t=1+((subs t).map size).sum)(hg:∀t,DQ t->∀c∈subs t,DQ c){F:D}(hF:Cok P F)(t:T)(hs:size t<=2000)(hB:μ s0+1<=B)(hgt:DQ t)
  (hp:∀c st' Q s,DQ c->μ s+1<=B->J s st'->Kp L st st'->(∀d s' st2,am6 st' st2 d ((subs c).map enc)->le s s'->μ s'<=μ s->J s' st2->Kp L st' st2->Q d st2)->F9 P G n F [enc c] st' Q)
  (q:∀a st' l s,st a=AE->Ord subs [t] l->(∀c∈l,DQ c)->st' a=AA (.lst (l.map λc=>.tup [enc c,.int (subs c).length]))->le s0 s->μ s<=μ s0->J s st'->Kp L st st'->l.length<=size t->Q (.ref a) st'):sem P G (n+1) "order_of_few" [enc t,F] st Q:=by
 have inL:∀{p:AI},st p=AE->p∉L:=λ{p}hp z=>by
  obtain⟨o,e⟩:=hJL j0 p z;rw[hp]at e;cases e
 refine g9 T0.few rfl [AA (enc t),AA F,AE,AE,AE,AE] rfl ?_;unfold ae8;walk_at "es";intro o ho;walk_at "es";intro h hh;have hoh:o≠h:=j7 c9 hh;have hsh:st h=AE:=by
  cases z:st h with
  |none=>rfl
  |some u=>rw[j6 z ho]at hh;cases hh
 have hoL:=inL ho;have hhL:=inL hsh;walk_at "es";refine b20 (λm env st'=>∃(sw:W)(dn S:List T)(x y:Option D),env=[AA (enc t),AA F,AA (.ref o),AA (.ref h),x,y]∧st' o=AA (.lst (dn.map λc=>.tup [enc c,.int (subs c).length]))∧st' h=AA (.lst (S.map enc))∧(∀l,Ord subs S l->Ord subs [t] (dn++l))∧(∀c∈dn,DQ c)∧(∀c∈S,DQ c)∧(S.map size).sum=m∧dn.length+m=size t∧le s0 sw∧μ sw<=μ s0∧J sw st'∧Kp L st st') ?_ _ _ _ ⟨s0,[],[t],AE,AE,rfl,j6 c9 hh,c9,λl z=>z,by simp,by simpa using hgt,rfl,by simp,lr s0,AU _,hJ (hJ j0 hoL (Kp.refl.new ho)) hhL (Kp.refl.new hh),(Kp.refl.new ho).new hh⟩;rintro m env st' _ ⟨sw,dn,S,x,y,rfl,h1,h2,h3,gd,gS,h4,h5,hle,hμ,Js,K⟩ ih;rw[ce1];walk_at "ek";rw[u0 (.inl h2)];walk_at "ek"
 rcases au6 S with rfl|⟨S,c,rfl⟩
 ·rw[if_neg (by simp)];walk_at "es";refine c0 (q o st' dn sw ho ?_ gd h1 hle hμ Js K (by lia));have:=h3 [] .nil;simpa using this
 ·rw[if_pos (by simp only[Ag,Aa,Cq,Ac,AV,AW,BQ];lia)];rw[Ag,Aa,Cq]at h2;simp only[Ag,Aa,Cq,Eu,Di,IJ]at h4;have sc:=hsz c;have gc:DQ c:=gS c (by simp);have hlen:∀l:List T,l.length<=(l.map size).sum:=λl=>by
   induction l with
   |nil=>simp
   |cons a l ih=>have:=hsz a;simp only[Aa,Di,AW];lia
  have hl3:=hlen S;have hl4:=hlen (subs c);walk_at "es";rw[W9 h2];have h1':b0 st' h (.lst (S.map enc)) o=AA (.lst (dn.map λc=>.tup [enc c,.int (subs c).length])):=c8 h1 hoh;walk_at "es";refine U7 hF ?_;walk_at "ek";have K1:Kp L st (b0 st' h (.lst (S.map enc))):=λb u nb e=>c8 (K b u nb e) (λz=>by rw[z,hsh]at e;cases e);have J1:J sw (b0 st' h (.lst (S.map enc))):=hJ Js hhL (Kp.refl.put (by simp));refine hp c _ _ sw gc (by lia) J1 K1 λd sw2 st2 hd hle2 hμ2 Js2 K2=>?_;have o2:=K2.at' h1' hoL;have s2:=K2.at' (c9 (st:=st') (a:=h) (o:=.lst (S.map enc))) hhL;walk_at "es";rw[v4 (.inl o2)];have hlenR:∀{R:DK},R (.int (subs c).length) st2->P3 d st2 R:=λ{R}z=>by
   rcases hd with rfl|⟨a,rfl,_,ha⟩
   ·show R _ st2;simpa using z
   ·rw[u0 (.inl ha)];simpa using z
  refine⟨trivial,hlenR ?_⟩;rw[A4 o2];refine⟨A0 (by simp only[AV];lia),?_⟩;walk_at "es";have s3:b0 st2 o (.lst ((dn.map λc=>D.tup [enc c,.int (subs c).length])++[.tup [enc c,.int (subs c).length]])) h=AA (.lst (S.map enc)):=c8 s2 hoh.symm;rw[v4 (.inl s3)];have hext:∀{R:DK},R .non (b0 (b0 st2 o (.lst ((dn.map λc=>D.tup [enc c,.int (subs c).length])++[.tup [enc c,.int (subs c).length]]))) h (.lst (S.map enc++(subs c).map enc)))->T6 (.ref h) d (b0 st2 o (.lst ((dn.map λc=>D.tup [enc c,.int (subs c).length])++[.tup [enc c,.int (subs c).length]]))) R:=λ{R}z=>by
   rcases hd with rfl|⟨a,rfl,han,ha⟩
   ·rw[cx7 s3];exact⟨E1 (by simp only[AV];lia),z⟩
   ·have nao:a≠o:=λz=>by rw[z,h1']at han;cases han
    rw[bo8 s3 (c8 ha nao)];exact⟨E1 (by simp only[AV];lia),z⟩
  refine⟨trivial,hext ?_⟩;walk_at "es";rw[u0 (.inl (c8 c9 hoh))];walk_at "ek";refine⟨2000,T0.cst,?_⟩;walk_at "ek";rw[if_neg (by simp only[Ac,AV,AW,BQ];lia)];walk_at "ek";refine ih ((S++subs c).map size).sum _ _ (by simp only[Ag,Eu];lia) ⟨sw2,dn++[c],S++subs c,_,_,rfl,?_,?_,?_,?_,?_,rfl,?_,lt hle hle2,by lia,hJ (hJ Js2 hoL (Kp.refl.put (by simp))) hhL (Kp.refl.put (by simp)),?_⟩
  ·rw[Ag];exact c8 c9 hoh
  ·rw[Ag];exact c9
  ·intro l hl;have:=h3 (c::l) (.cons hl);simpa using this
  ·intro z hz
   rcases Bc.mp hz with hz|hz
   ·exact gd z hz
   ·simp at hz;rw[hz];exact gc
  ·intro z hz
   rcases Bc.mp hz with hz|hz
   ·exact gS z (by simp[hz])
   ·exact hg c gc z hz
  ·simp only[Ac,AW,BQ,Ag,Eu];lia
  ·intro b u nb e;have eh:b≠h:=λz=>by rw[z,hsh]at e;cases e
   have eo:b≠o:=λz=>by rw[z,ho]at e;cases e
   exact c8 (c8 (K2.at' (K1 b u nb e) nb) eo) eh
def a03{dn:AI}{ds xs:List D}{m:Nat}(hm:xs.length=m)(hd:st dn=AA (.lst (ds++xs)))(hb:xs.length<=2000)
  (q:∀a st',st a=AE->a≠dn->st' a=AA (.lst xs)->st' dn=AA (.lst ds)->Kp [dn] st st'->Q (.ref a) st'):sem P G (n+1) "taken" [.ref dn,.int m] st Q:=by
 subst hm;refine g9 T0.taken rfl [AA (.ref dn),AA (.int xs.length),AE,AE] rfl ?_;unfold ak5;walk_at "es";intro o ho;have hod:dn≠o:=j7 hd ho;walk_at "es";refine⟨⟨by lia,by lia⟩,?_⟩;refine A9 (λl env st'=>∃(pre suf:List D)(x:Option D),xs=pre++suf∧l.length=pre.length∧(∀d∈l,∃i,d=.int i)∧env=[AA (.ref dn),AA (.int xs.length),AA (.ref o),x]∧st' dn=AA (.lst (ds++pre))∧st' o=AA (.lst suf.reverse)∧Kp [dn] st st') ?_ ?_ _ _ _ ⟨xs,[],AE,by simp,by simp[t0],λd hd=>by simp[t0]at hd;obtain⟨i,_,rfl⟩:=hd;exact⟨_,rfl⟩,rfl,by rw[j6 hd ho],c9,Kp.refl.new ho⟩
 ·rintro env st' ⟨pre,suf,x,e,hl,_,rfl,h1,h2,K⟩;have:pre=[]:=by simpa using hl.symm
  subst this;simp only[DW]at e;subst e;refine⟨trivial,?_⟩;walk_at "es";rw[c09 h2];walk_at "es";refine c0 (q o _ ho (λz=>hod z.symm) ?_ (c8 (by simpa using h1) hod) λb u nb e=>c8 (K b u nb e) (λz=>by rw[z,ho]at e;cases e));rw[c9,HX]
 ·rintro d0 dl env st' ih ⟨pre,suf,x,e,hl,hi,rfl,h1,h2,K⟩;obtain⟨i,rfl⟩:=hi d0 (by simp)
  rcases au6 pre with rfl|⟨pre,c,rfl⟩
  ·simp at hl
  refine⟨trivial,?_⟩;walk_at "ek";walk_at "es";rw[v4 (.inl h2),W9 (by rw[h1,CT]:st' dn=AA (.lst ((ds++pre)++[c])))];have h2':b0 st' dn (.lst (ds++pre)) o=AA (.lst suf.reverse):=c8 h2 hod.symm;rw[A4 h2'];have hle:suf.length<=xs.length:=by rw[e];simp;lia
  refine⟨trivial,A0 (by rw[Ez];lia),?_⟩;walk_at "ek";refine ih _ _ ⟨pre,c::suf,_,by rw[e];simp,by simp at hl ⊢;lia,λd hd=>hi d (by simp[hd]),rfl,c8 c9 hod,by rw[c9,DJ],λb u nb e=>c8 (c8 (K b u nb e) (λz=>nb (by simp[z]))) (λz=>by rw[z,ho]at e;cases e)⟩
def cf4{W:Type}{J:W->Sto->Prop}{le:W->W->Prop}(lr:∀s,le s s)(lt:∀{s t u},le s t->le t u->le s u)(hJ:∀{s st st' dn},J s st->dn∉L->Kp [dn] st st'->J s st')(hsz:∀t,size t=1+((subs t).map size).sum)(hg:∀t,DQ t->∀c∈subs t,DQ c){F M:D}(hF:Cok P F)(hM:Cok P M)(t:T)(hs:size t<=2000)(hgt:DQ t){V:AI->W->T->D->Sto->Prop}(hV:∀{dn s s' k d st st'},V dn s k d st->le s s'->Kp (dn::L) st st'->V dn s' k d st')
  {s0:W} {μ:W->Nat} {B:Nat} (hB:μ s0+size t<=B) (j0:J s0 st) (hJL:∀{s st},J s st->∀a∈L,∃o,st a=AA o)
  (hp:∀c st' Q s,DQ c->μ s+1<=B->J s st'->Kp L st st'->(∀d s' st2,am6 st' st2 d ((subs c).map enc)->le s s'->μ s'<=μ s->J s' st2->Kp L st' st2->Q d st2)->F9 P G n F [enc c] st' Q)
  (hm:∀c dn la st' Q ds s,DQ c->μ s+1<=B->J s st'->Kp L st st'->st dn=AE->la∉L->la≠dn->st la=AE->st' la=AA (.lst ds)->ds.length=(subs c).length->(∀(i:Nat)c' d,(subs c)[i]?=AA c'->ds[i]?=AA d->V dn s c' d st')->(∃xs,st' dn=AA (.lst xs))->(∀d s' st2,V dn s' c d st2->le s s'->μ s'<=μ s+1->J s' st2->Kp L st' st2->Q d st2)->F9 P G (n+1) M [enc c,.ref la] st' Q)
  (q:∀dn d s' st',st dn=AE->V dn s' t d st'->le s0 s'->μ s'<=B->J s' st'->Kp L st st'->Q d st'):sem P G (n+2) "made_of_parts" [enc t,F,M] st Q:=by
 have hL:=hJL j0;refine g9 T0.mop rfl [AA (enc t),AA F,AA M,AE,AE,AE,AE] rfl ?_;unfold X7;walk_at "es";refine⟨by rw[T0.few];rfl,bf5 T0 (DQ:=λc=>DQ c∧size c<=2000) (J:=J) (s0:=s0) lr lt hJ (μ:=μ) (B:=B) j0 hJL hsz (λc gc c' hc'=>⟨hg c gc.1 c' hc',BF (Q3 size hc') (by have:=hsz c;have:=gc.2;lia)⟩) hF t hs (by have:=hsz t;lia) ⟨hgt,hs⟩ (λc st' Q s gc=>hp c st' Q s gc.1) λoa st1 l s1 hoa0 hord gl hoa hle1 hμ1 Js1 K1 hl=>?_⟩;walk_at "es";refine .inr ⟨nofun,?_⟩;walk_at "ek";walk_at "es";intro dn hdn;have hod:oa≠dn:=j7 hoa hdn;have hdn0:st dn=AE:=aj9 K1 hL hdn Js1 hJL;have hdL:dn∉L:=λz=>by obtain⟨o,e⟩:=hL dn z;rw[hdn0]at e;cases e
 have hoL:oa∉L:=λz=>by obtain⟨o,e⟩:=hL oa z;rw[hoa0]at e;cases e
 walk_at "es";refine⟨_,.inl (j6 hoa hdn),?_⟩;rw[<-Ii];have K1':Kp L st (b0 st1 dn (.lst [])):=K1.new hdn;have J1:J s1 (b0 st1 dn (.lst [])):=hJ Js1 hdL (Kp.refl.new hdn);have kdn:∀(u:Ob)(st2:Sto),Kp L st st2->Kp L st (b0 st2 dn u):=λu st2 K b o nb e=>c8 (K b o nb e) (λz=>by rw[z,hdn0]at e;cases e);refine A9 (λll env st'=>∃(s:W)(i5 S:List T)(ds:List D)(x5 x6:Option D),ll=i5.map (λc=>D.tup [enc c,.int (subs c).length])∧(∀c∈i5,DQ c∧size c<=2000)∧Rn subs i5 S t∧env=[AA (enc t),AA F,AA M,AA (.ref oa),AA (.ref dn),x5,x6]∧st' dn=AA (.lst ds)∧ds.length=S.length∧S.length+i5.length<=100000∧(∀(i:Nat)c d,S[i]?=AA c->ds[i]?=AA d->V dn s c d st')∧st' oa=AA (.lst (l.map λc=>.tup [enc c,.int (subs c).length]))∧J s st'∧le s0 s∧μ s+i5.length<=B∧Kp L st st') ?_ ?_ _ _ _ ⟨s1,l.reverse,[],[],AE,AE,rfl,λc hc=>gl c (by simpa using hc),by simpa using bi5 subs hord (.done t) (S0:=[]) ,rfl,c9,rfl,by simp;lia,by simp,j6 hoa hdn,J1,hle1,by rw[Ez];lia,K1'⟩
 ·rintro env st' ⟨s,i5,S,ds,x5,x6,el,_,hr,rfl,hd,hl',_,hv,hoa',Js,hle,hμ,K⟩;have es:i5=[]:=by simpa using el.symm
  subst es;refine⟨.inl hoa',?_⟩;cases hr;obtain⟨d,rfl⟩:∃d,ds=[d]:=by match ds,hl' with|[d],_=>exact⟨d,rfl⟩
  walk_at "es";rw[l5 (.inl hd)];exact⟨d,rfl,c0 (q dn d s st' hdn0 (hv 0 t d rfl rfl) hle (by lia) Js K)⟩
 ·rintro d0 dl env st' ih ⟨s,i5,S,ds,x5,x6,el,hin,hr,rfl,hd,hl',hb,hv,hoa',Js,hle,hμ,K⟩;refine⟨.inl hoa',?_⟩;cases i5 with
  |nil=>simp at el
  |cons h i5=>
   simp only[Aa,Ah]at el;obtain⟨rfl,rfl⟩:=el;simp only[AW]at hb hμ;have gh:DQ h:=(hin h (by simp)).1;cases hr with
   |@step _ _ _ S hr=>
   simp only[Ac]at hl' hb;obtain⟨ds,xs,rfl,hlS,hlx⟩:∃ds' xs,ds=ds'++xs∧ds'.length=S.length∧xs.length=(subs h).length:=⟨ds.take S.length,ds.drop S.length,(Eh _ _).symm,by rw[DD];lia,by rw[EN];lia⟩;have hss:(subs h).length<=2000:=by
    have h1:=(hin h (by simp)).2;have h2:=hsz h;have h3:=Z9 hsz (subs h);lia
   have vx:∀(i:Nat)c' d,(subs h)[i]?=AA c'->xs[i]?=AA d->V dn s c' d st':=λi c' d e1 e2=>hv (S.length+i) c' d (by rw[Aj (by lia)];rw[show S.length+i-S.length=i by lia];exact e1) (by rw[Aj (by lia),hlS];rw[show S.length+i-S.length=i by lia];exact e2);have vS:∀(i:Nat)c' d,S[i]?=AA c'->ds[i]?=AA d->V dn s c' d st':=λi c' d e1 e2=>hv i c' d (by rw[Ad (AR.mp e1).1];exact e1) (by rw[Ad (AR.mp e2).1];exact e2);have main:∀la st2,la∉L->la≠dn->st la=AE->st2 la=AA (.lst xs)->st2 dn=AA (.lst ds)->Kp [dn] st' st2->F9 P G (n+1) M [enc h,.ref la] st2 λd st3=>T8 (.ref dn) d st3 λ_ st4=>p7 (λst'=>rdS st' oa (l.map λc=>.tup [enc c,.int (subs c).length])) (.tup [5,6]) (f8 (Zg P G (n+1)) (.cons (.ex (.app (.v 4) (.callv 2 (.cons (.v 5) (.cons (.ite (.cmp .Gt (.v 6) (.int 0)) (.call "taken" (.cons (.v 4) (.cons (.v 6) .nil))) (.lst .nil)) .nil))))) .nil)) ⟨f8 (Zg P G (n+1)) (.cons (.ret (.ix (.v 4) (.int 0))) .nil) (j8 Q),(j8 Q).rt,(j8 Q).bk,(j8 Q).ct⟩ (i5.map λc=>D.tup [enc c,.int (subs c).length]) [AA (enc t),AA F,AA M,AA (.ref oa),AA (.ref dn),AA (enc h),AA (.int (subs h).length)] st4:=λla st2 hla hne hl0 hl2 hd2 K2=>by
    have KK:Kp L st st2:=λb u nb e=>K2.at' (K b u nb e) (by simp;exact λz=>by rw[z,hdn0]at e;cases e);refine hm h dn la st2 _ xs s gh (by lia) (hJ Js hdL K2) KK hdn0 hla hne hl0 hl2 hlx (λi c' d e1 e2=>hV (vx i c' d e1 e2) (lr s) (K2.more (by simp))) ⟨_,hd2⟩ λd s' st3 vd hle' hμ' Js' K3=>?_;have hd3:=K3.at' hd2 hdL;rw[A4 hd3];refine⟨A0 (by lia),?_⟩;refine ih _ _ ⟨s',i5,S++[h],ds++[d],_,_,rfl,λc hc=>hin c (by simp[hc]),hr,rfl,c9,by simp[hlS],by simp;lia,λi c' d' e1 e2=>?_,c8 (K3.at' (K2.at' hoa' (by simpa using hod)) hoL) hod,hJ Js' hdL (Kp.refl.put (by simp)),lt hle hle',by lia,kdn _ _ (KK.trans K3)⟩
    by_cases hi:i<S.length
    ·rw[Ad hi]at e1;rw[Ad (by lia)]at e2;exact hV (hV (hV (vS i c' d' e1 e2) (lr s) (K2.more (by simp))) hle' (K3.more (by intro x hx;simp[hx]))) (lr s') (Kp.refl.put (by simp))
    ·rw[Aj (by lia)]at e1;rw[Aj (by lia)]at e2;have hi0:i-S.length=0:=by
      have:=(AR.mp e1).1;simp at this;lia
     rw[hi0]at e1;rw[show i-ds.length=0 by lia]at e2;cases e1;cases e2;exact hV vd (lr s') (Kp.refl.put (by simp))
   have inL:∀{p:AI},st' p=AE->p∉L:=λ{p}hp z=>by
    obtain⟨o,e⟩:=hJL Js p z;rw[hp]at e;cases e
   walk_at "ek";walk_at "es";rw[v4 (.inl hd)];refine⟨trivial,U7 hM ?_⟩;walk_at "ek"
   by_cases h0:(subs h).length=0
   ·rw[if_neg (by lia)];intro la hla;have exs:xs=[]:=Ay (by lia);subst exs;exact main la _ (inL hla) (j7 hd hla).symm (aj9 K hL hla Js hJL) c9 (j6 (by simpa using hd) hla) (Kp.refl.new hla)
   ·rw[if_pos (by lia)];refine⟨by rw[T0.taken];rfl,?_⟩;exact a03 T0 hlx hd (by lia) λla st2 hla hne hl2 hd2 K2=>main la st2 (inL hla) hne (aj9 K hL hla Js hJL) hl2 hd2 K2
end
structure PT0(P:i8)(G:Gs):Prop extends PM P G where
 bu:P "built_up"=AA d_built_up
end Ek
namespace Ek
open PySem L2
set_option hygiene false
local macro_rules | `(tactic| walk_at "ek")=>`(tactic| try simp only [bq1,bm7,be4,bp0,bt1,bj6,bq2,be6,bp4,a80,bh7,bg4,bm2,bj5,bs7,an5,an7,e_v,bl3,bk2,bk4,bn6,bn0,bk8,bh8,bo5,bq5,bk7,bj4,bu1,bu3,bl6,bm8,a73,a59,a70,bm4,az4,a83,a58,bi8,az3,a66,a98,a07,bi1,a89,a00,be5,bh9,bn9,bo4,a96,bl2,bg7,a76,bp9,bi7,bt4,a50,bl7,bc5,bk1,ay6,ai5,bs2,a87,bh6,bm5,bc3,ba9,bg2,be8,bk9,bn2,bp1,a77,bk0,bp3,bc9,bo6,a93,bq3,bn8,bd9,a97,be7,bf3,a91,bo2,bp7,bf7,bc7,bc8,bp8,br0,bu5,bu6,bq7,bq8,bt0,bk3,bs8,bl9,bf0,bo7,bg9,bu4,br3,br6,or_false,false_or,bf6,bc6,bb1,bh4,am8,bg3,bh1,bm9,ab3,bm3,ao3,bp6,bl5,ab4,T3,bn4,bm6,bk5,bo9,ap9,bo0,↓bs0,↓bu2,↓br1,↓bs3,bt9,bk6,ac9,br9,br7,bt2,bt7,bl4,bb5,bo3,bn5,be1,a54,ax3,bf9,ba3,bi4,bg5,bg6,as7,at5,bj9,bd7,List.set_cons_zero,List.set_cons_succ,List.getElem?_cons_zero,List.getElem?_cons_succ,decide_eq_true_eq,not_eq_true',decide_eq_false_iff_not,if_true,if_false,true_and,and_true,false_eq_true,Bool.true_eq_false,length_cons,length_nil,String.reduceEq,decide_true,decide_false,Bool.not_true,Bool.not_false])
set_option hygiene true
set_option hygiene false
local macro_rules | `(tactic| walk_at "es")=>`(tactic| ((try dsimp only);(first | refine bq9 ?_ | rw [bj3]);walk_at "ek"))
set_option hygiene true
variable{ds fr A:List D}{r x h h' w':Int}{i n m:Nat}{P:i8}{G:Gs}{st st':Sto}{Q:DK}{sh dn sa pa wa a b da ca ka la ba aa:AI}{c p:Pg}{L f X R:List AI}{w:String}{Γ ks Δ:List Kd}{ws ws':List (Kd×Bool)}{kd' nd kd nm md:D}
mutual
noncomputable def D.lit:D->Bool
 |.int _=>AC
 |.str x=>EV (.str x)
 |.tup ds=>D.lits ds
 |_=>AG
noncomputable def D.lits:List D->Bool
 |[]=>AC
 |d::r=>d.lit&&D.lits r
end
mutual
theorem a99:∀x y:D,x.lit=AC->y.lit=AC->(deq x y=AC↔x=y)
 |.int i,y,hx,hy=>by
  cases y<;>first|(simp[D.lit]at hy;done)|skip
  ·rw[ak2];simp
  ·constructor
   ·intro h;simp[deq,D.py,Aq]at h
   ·intro h;cases h
  ·constructor
   ·intro h;simp[deq,D.py,Aq]at h
   ·intro h;cases h
 |.str x,y,hx,hy=>by
  cases y<;>first|(simp[D.lit]at hy;done)|skip
  ·constructor
   ·intro h;simp[deq,D.py,Aq]at h
   ·intro h;cases h
  ·rw[G7];simp
  ·constructor
   ·intro h;simp[deq,D.py,Aq]at h
   ·intro h;cases h
 |.tup xs,y,hx,hy=>by
  cases y<;>first|(simp[D.lit]at hy;done)|skip
  ·constructor
   ·intro h;simp[deq,D.py,Aq]at h
   ·intro h;cases h
  ·constructor
   ·intro h;simp[deq,D.py,Aq]at h
   ·intro h;cases h
  ·rename_i ys;rw[Q4,ax4 xs ys hx hy];simp
 |.non,y,hx,hy=>nomatch hx
 |.bl _,y,hx,hy=>nomatch hx
 |.ref _,y,hx,hy=>nomatch hx
 |.fn _,y,hx,hy=>nomatch hx
theorem ax4:∀xs ys:List D,D.lits xs=AC->D.lits ys=AC->(B5 xs ys=AC↔xs=ys)
 |[],[],_,_=>by simp[B5]
 |[],y::ys,_,_=>by simp[B5]
 |x::xs,[],_,_=>by simp[B5]
 |x::xs,y::ys,hx,hy=>by
  have h1:x.lit=AC∧D.lits xs=AC:=by simpa[D.lits]using hx
  have h2:y.lit=AC∧D.lits ys=AC:=by simpa[D.lits]using hy
  rw[B5,At,a99 x y h1.1 h2.1,ax4 xs ys h1.2 h2.2,Ah]
end
def Y5:D.lits ds=AC↔∀d∈ds,d.lit=AC:=by
 induction ds with
 |nil=>simp[D.lits]
 |cons d r ih=>simp[D.lits,ih]
def as4(s:String):(D.str (Ab s)).lit=AC:=D5 s
def al0:(D.tup ds).lit=D.lits ds:=rfl
def av0{d:D}{r:List D}:D.lits (d::r)=(d.lit&&D.lits r):=rfl
def cb9:D.lits []=AC:=rfl
theorem ai7{α:Type}:∀{l:List α},l.Nodup->∀(i j:Nat)(x:α),l[i]?=AA x->l[j]?=AA x->i=j
 |[],_,i,j,x,h,_=>by simp at h
 |a::l,hn,i,j,x,hi,hj=>by
  have hn':=BM.mp hn;cases i with
  |zero=>
   cases j with
   |zero=>rfl
   |succ j=>
    simp at hi;subst hi;exact absurd (BE (by simpa using hj)) hn'.1
  |succ i=>
   cases j with
   |zero=>
    simp at hj;subst hj;exact absurd (BE (by simpa using hi)) hn'.1
   |succ j=>rw[ai7 hn'.2 i j x (by simpa using hi) (by simpa using hj)]
structure PSh(P:i8)(G:Gs):Prop extends PM P G where
 init:P (c7 "Shelf" "__init__")=AA ad9
 laid:P (c7 "Shelf" "laid")=AA ag2
 numb:P (c7 "Shelf" "numbered")=AA ad5
 tup:P (c7 "Shelf" "tuple_at")=AA ad6
 word:P (c7 "Shelf" "word_at")=AA ae2
 wthn:P (c7 "Shelf" "within")=AA af6
 tin:P "tuples_in"=AA ag6
 cls:G.cls "Shelf"=[("numbers":Str),("stored":Str),("parts":Str),("waiting":Str)]
 kt:G.cls "!kt"≠[]
noncomputable def y4(ns:List Nat):D:=.tup (ns.map λ(n:Nat)=>D.int (n:Int))
structure It3 where
 fr:List D
 ns:List Nat
 t:D
variable{e:It3}{S':List It3}
noncomputable def It3.key(e:It3):D:=.tup [.tup e.fr,y4 e.ns]
inductive Lay:D->Prop where
 |mk {fr inn:List D}:(∀d∈fr,∃s:String,d=.str s)->(∀d∈inn,Lay d)->fr.length<=10->inn.length<=1000->Lay (.tup (fr++inn))
structure Wf(S:List It3):Prop where
 wh:∀(i:Nat)(e:It3),S[i]?=AA e->(∀d∈e.fr,∃s:String,d=.str s)∧∃inn,e.t=.tup (e.fr++inn)∧inn.length=e.ns.length∧∀(j n:Nat),e.ns[j]?=AA n->n<i∧∃e',S[n]?=AA e'∧inn[j]?=AA e'.t
 nd:(S.map It3.key).Nodup
structure ShA(sh dn sa pa wa:AI)(S:List It3)(st:Sto):Prop where
 ins:st sh=AA (.ins "Shelf" [(("numbers":Str),D.ref dn),(("stored":Str),D.ref sa),(("parts":Str),D.ref pa),(("waiting":Str),D.ref wa)])
 num:st dn=AA (.dtt (S.mapIdx λi e=>(e.key.py,.int i)))
 sto:st sa=AA (.lst (S.map It3.t))
 par:st pa=AA (.lst (S.map λe=>y4 e.ns))
 wai:∃o,st wa=AA o
 wf:Wf S
 ml:S.length<=1000000
 fl:∀e∈S,e.fr.length<=10∧e.ns.length<=1000
def a79{fr' inn inn':List D}(h1:∀d∈fr,∃s:String,d=.str s)(h2:∀d∈fr',∃s:String,d=.str s)(h3:∀d∈inn,∃l,d=.tup l)(h4:∀d∈inn',∃l,d=.tup l)(h:fr++inn=fr'++inn'):fr=fr'∧inn=inn':=by
 induction fr generalizing fr' with
 |nil=>
  cases fr' with
  |nil=>exact⟨rfl,h⟩
  |cons x fr'=>
   obtain⟨s,rfl⟩:=h2 x (by simp);rw[DW,CB]at h;obtain⟨l,e⟩:=h3 (.str s) (by rw[h];simp);cases e
 |cons x fr ih=>
  cases fr' with
  |nil=>
   obtain⟨s,rfl⟩:=h1 x (by simp);rw[DW,CB]at h;obtain⟨l,e⟩:=h4 (.str s) (by rw[<-h];simp);cases e
  |cons y fr'=>
   rw[CB,CB,Ah]at h;obtain⟨rfl,h⟩:=h;obtain⟨rfl,rfl⟩:=ih (λd hd=>h1 d (by simp[hd])) (λd hd=>h2 d (by simp[hd])) h;exact⟨rfl,rfl⟩
theorem Wf.inn{S:List It3}(w:Wf S)(h:S[i]?=AA e):∃inn,e.t=.tup (e.fr++inn)∧inn.length=e.ns.length∧(∀d∈inn,∃l,d=.tup l)∧∀(j n:Nat),e.ns[j]?=AA n->n<i∧∃e',S[n]?=AA e'∧inn[j]?=AA e'.t:=by
 obtain⟨_,inn,h1,h2,h3⟩:=w.wh i e h;refine⟨inn,h1,h2,λd hd=>?_,h3⟩;obtain⟨j,hj⟩:=DY.mp hd;have hjl:j<e.ns.length:=by rw[<-h2];exact(AR.mp hj).1
 obtain⟨_,e',he',hi⟩:=h3 j _ (AL hjl);rw[hj]at hi;obtain⟨_,inn',h1',_⟩:=w.wh _ e' he';cases hi;exact⟨_,h1'⟩
def Wf.inj{S:List It3}(w:Wf S):∀(m:Nat){i j:Nat}{e e':It3},i<=m->S[i]?=AA e->S[j]?=AA e'->e.t=e'.t->i=j:=by
 intro m
 induction m using Nat.strongRecOn with
 |ind m ih=>
 intro i j e e' him hi hj ht;obtain⟨inn,h1,h2,h3,h4⟩:=w.inn hi;obtain⟨inn',h1',h2',h3',h4'⟩:=w.inn hj;rw[h1,h1']at ht;have ht':e.fr++inn=e'.fr++inn':=by injection ht
 obtain⟨ef,ei⟩:=a79 (w.wh i e hi).1 (w.wh j e' hj).1 h3 h3' ht';subst ei;have en:e.ns=e'.ns:=by
  refine GT λk=>?_
  by_cases hk:k<e.ns.length
  ·have hk':k<e'.ns.length:=by rw[<-h2',h2];exact hk
   obtain⟨l1,f,hf,g1⟩:=h4 k _ (AL hk);obtain⟨l2,f',hf',g2⟩:=h4' k _ (AL hk');rw[g1]at g2;have:=ih e.ns[k] (by lia) (AU _) hf hf' (by injection g2);rw[AL hk,AL hk',this]
  ·rw[Bu (by lia),Bu (by rw[<-h2',h2];lia)]
 have ek:e.key=e'.key:=by unfold It3.key;rw[ef,en]
 exact ai7 w.nd i j e.key (by rw[Am,hi];rfl) (by rw[Am,hj,ek];rfl)
mutual
theorem ab2:∀d:D,d.lit=AC->NK.lit d.py=AC
 |.int _,_=>rfl
 |.str _,h=>h
 |.tup ds,h=>a64 ds h
 |.non,h=>nomatch h
 |.bl _,h=>nomatch h
 |.ref _,h=>nomatch h
 |.fn _,h=>nomatch h
theorem a64:∀ds:List D,D.lits ds=AC->NK.lits (D.pys ds)=AC
 |[],_=>rfl
 |d::r,h=>by
  have h':d.lit=AC∧D.lits r=AC:=by simpa[D.lits]using h
  show(NK.lit d.py&&NK.lits (D.pys r))=AC;rw[ab2 d h'.1,a64 r h'.2];rfl
end
def bc0{x y:D}(hx:x.lit=AC)(hy:y.lit=AC)(h:x.py=y.py):x=y:=by
 refine(a99 x y hx hy).mp ?_;unfold deq;rw[h];exact(NK.eqv_lit _ _ (ab2 y hy) (ab2 y hy)).mpr rfl
def a85(h:∀d∈e.fr,∃s:String,d=.str s):e.key.lit=AC:=by
 have h1:D.lits e.fr=AC:=Y5.mpr λd hd=>by obtain⟨s,rfl⟩:=h d hd;exact as4 s
 have h2:(y4 e.ns).lit=AC:=Y5.mpr λd hd=>by
  obtain⟨n,_,rfl⟩:=Ce.mp hd;rfl
 show D.lits [.tup e.fr,y4 e.ns]=AC;rw[av0,av0,cb9,al0,h1,h2];rfl
def cv9(h:∀d∈e.fr,∃s:String,d=.str s):l6 e.key<=2:=by
 unfold It3.key;rw[M2];have h1:C5 e.fr<=0:=by
  generalize e.fr=l at h
  induction l with
  |nil=>exact AU _
  |cons d l ih=>
   obtain⟨s,rfl⟩:=h d (by simp);have:=ih λd hd=>h d (by simp[hd]);show max (l6 (.str s)) (C5 l)<=0;rw[D7];lia
 have h2:∀ns:List Nat,C5 (ns.map λ(n:Nat)=>D.int (n:Int))<=0:=λns=>by
  induction ns with
  |nil=>exact AU _
  |cons n ns ih=>
   show max (l6 (.int n)) (C5 _)<=0;rw[V5];lia
 have h3:=h2 e.ns;show max (l6 (.tup e.fr)) (max (l6 (y4 e.ns)) 0)+1<=2;unfold y4;rw[M2,M2];lia
theorem aw9:∀(S:List It3)(k:D)(o:Nat),(∀e∈S,e.key.py≠k.py)->B2 (S.mapIdx λi e=>(e.key.py,D.int ((o+i:Nat):Int))) k.py=AE
 |[],k,o,_=>by simp[B2]
 |e::S,k,o,h=>by
  have:=aw9 S k (o+1) λe' he=>h e' (by simp[he]);rw[Ij];unfold B2 at this ⊢;rw[Bg,decide_eq_false (h e (by simp))];simp only;simpa[EZ,KW 1]using this
theorem aw6:∀(S:List It3)(k:D)(o i:Nat)(e:It3),S[i]?=AA e->e.key.py=k.py->(∀j e',j<i->S[j]?=AA e'->e'.key.py≠k.py)->B2 (S.mapIdx λi e=>(e.key.py,D.int ((o+i:Nat):Int))) k.py=AA (.int ((o+i:Nat):Int))
 |[],k,o,i,e,h,_,_=>by simp at h
 |x::S,k,o,0,e,h,hk,_=>by
  simp at h;subst h;rw[Ij];unfold B2;rw[Bg,decide_eq_true hk];rfl
 |x::S,k,o,i+1,e,h,hk,hj=>by
  have:=aw6 S k (o+1) i e (by simpa using h) hk λj e' hji he'=>hj (j+1) e' (by lia) (by simpa using he');rw[Ij];unfold B2 at this ⊢;rw[Bg,decide_eq_false (hj 0 x (by lia) rfl)];simp only;simpa[EZ,KW 1]using this
def ca9:∀{a b:List Nat},y4 a=y4 b->a=b:=by
 intro a b h;unfold y4 at h;injection h with h
 induction a generalizing b with
 |nil=>cases b with
  |nil=>rfl
  |cons y b=>simp at h
 |cons x a ih=>cases b with
  |nil=>simp at h
  |cons y b=>
   rw[Aa,Aa,Ah]at h;have hx:x=y:=by have h1:=h.1;injection h1 with h1;lia
   rw[hx,ih h.2]
def cp3{S:List It3}{ns:List Nat}{x y:List D}(hx:x.length=ns.length)(hy:y.length=ns.length)(h1:∀(j n:Nat),ns[j]?=AA n->∃e,S[n]?=AA e∧x[j]?=AA e.t)(h2:∀(j n:Nat),ns[j]?=AA n->∃e,S[n]?=AA e∧y[j]?=AA e.t):x=y:=by
 refine GT λj=>?_
 by_cases hj:j<ns.length
 ·obtain⟨e,he,g1⟩:=h1 j _ (AL hj);obtain⟨e',he',g2⟩:=h2 j _ (AL hj);rw[he]at he';cases he';rw[g1,g2]
 ·rw[Bu (by lia),Bu (by lia)]
section
variable (T:PSh P G)
include T
def as6{S:List It3}(A:ShA sh dn sa pa wa S st)(hd:[sh,dn,sa,pa].Nodup){inn:List D}{ns:List Nat}(hfr:∀d∈fr,∃s:String,d=.str s)(hlen:inn.length=ns.length)(hns:∀(j n:Nat),ns[j]?=AA n->∃e,S[n]?=AA e∧inn[j]?=AA e.t)(b1:fr.length<=10)(b2:ns.length<=1000)(b3:S.length<1000000)
  (q:∀m S' st',ShA sh dn sa pa wa S' st'->S <+: S'->S'.length<=S.length+1->S'[m]?=AA ⟨fr,ns,.tup (fr++inn)⟩->Kp [dn,sa,pa] st st'->Q (.int (m:Nat)) st'):sem P G (n+1) (c7 "Shelf" "numbered") [.ref sh,.tup fr,y4 ns] st Q:=by
 obtain⟨E,hE⟩:∃E:It3,E=⟨fr,ns,.tup (fr++inn)⟩:=⟨_,rfl⟩;have hk:E.key=.tup [.tup fr,y4 ns]:=by rw[hE];rfl
 have hlE:=a85 (e:=E) (by rw[hE];exact hfr);have hdE:=cv9 (e:=E) (by rw[hE];exact hfr);have hkey:D.key (.tup [.tup fr,y4 ns]):=by
  rw[<-hk];exact⟨ab2 _ hlE,BF hdE (by decide)⟩
 have hlS:∀e∈S,e.key.lit=AC:=λe he=>by
  obtain⟨i,hi⟩:=DY.mp he;exact a85 (A.wf.wh i e hi).1
 have hidx:(S.mapIdx λi e=>(e.key.py,D.int i))=S.mapIdx λi e=>(e.key.py,D.int ((0+i:Nat):Int)):=by
  congr 1;funext i e;rw[Ik]
 refine g9 T.numb rfl [AA (.ref sh),AA (.tup fr),AA (y4 ns),AE,AE] rfl ?_;unfold ad5;walk_at "es";walk_at "es";refine⟨sh,"Shelf",_,.ref dn,rfl,A.ins,by show _∈G.cls "Shelf";rw[T.cls];simp,rfl,⟨_,A.num⟩,_,A.num,hkey,?_⟩;rw[<-hk]
 by_cases hex:∃(i:Nat)(e:It3),S[i]?=AA e∧e.key=E.key
 ·obtain⟨i,e,hi,he⟩:=hex;have hl:B2 (S.mapIdx λi e=>(e.key.py,D.int i)) E.key.py=AA (.int i):=by
   rw[hidx,aw6 S E.key 0 i e hi (by rw[he]) λj e' hj he' z=>?_,Ik];have hz:=bc0 (hlS e' (BE he')) hlE z;have:=ai7 A.wf.nd j i E.key (by rw[Am,he'];exact congrArg AA hz) (by rw[Am,hi];exact congrArg AA he);lia
  rw[hl];walk_at "es";refine .inr ⟨nofun,?_⟩;walk_at "ek";walk_at "es";refine c0 (q i S st A (CD S) (by lia) ?_ Kp.refl);rw[hi];have hk2:e.key=.tup [.tup fr,y4 ns]:=by rw[he,hk]
  unfold It3.key at hk2;injection hk2 with hk2
  simp only[Ah,and_true]at hk2;obtain⟨k1,k2⟩:=hk2;injection k1 with k1
  have k3:e.ns=ns:=ca9 k2;obtain⟨inn',h1,h2,_,h4⟩:=A.wf.inn hi;have:inn'=inn:=cp3 h2 (by rw[k3];exact hlen) (λj n hj=>(h4 j n hj).2) (by rw[k3];exact hns);obtain⟨a,b,c⟩:=e;simp only at k1 k3 h1;subst k1;subst k3;subst this;rw[h1]
 ·have hno:∀e∈S,e.key.py≠E.key.py:=λe he z=>hex (by
   obtain⟨i,hi⟩:=DY.mp he;exact⟨i,e,hi,bc0 (hlS e he) hlE z⟩)
  have hl:B2 (S.mapIdx λi e=>(e.key.py,D.int i)) E.key.py=AE:=by rw[hidx];exact aw9 S E.key 0 hno
  rw[hl];walk_at "es";refine .inl ⟨rfl,?_⟩;walk_at "ek";walk_at "es";have hc:∀f∈[("numbers":Str),("stored":Str),("parts":Str),("waiting":Str)],f∈G.cls "Shelf":=λf hf=>by rw[T.cls];exact hf
  refine⟨sh,"Shelf",_,.ref sa,rfl,A.ins,hc _ (by simp),rfl,?_⟩;rw[u0 (.inl A.sto),AV];walk_at "es";refine⟨sh,"Shelf",_,.ref dn,rfl,A.ins,hc _ (by simp),rfl,?_⟩;rw[hk];refine⟨_,A.num,hkey,A0 (by rw[List.length_mapIdx];lia),?_⟩;rw[<-hk];simp only[BM,AM,Ae,or_false,not_or]at hd;obtain⟨⟨d1,d2,d3⟩,⟨d4,d5⟩,d6,_⟩:=hd;have hput:U1 (S.mapIdx λi e=>(e.key.py,D.int i)) E.key.py (.int S.length)=(S++[E]).mapIdx λi e=>(e.key.py,D.int i):=by
   unfold U1;rw[if_neg,List.mapIdx_append]
   ·simp
   ·rw[Bool.not_eq_true,GK];intro x hx;rw[List.mem_mapIdx]at hx;obtain⟨i,hi,rfl⟩:=hx;simpa using hno _ (Gj hi)
  rw[hput];have a1:∀u,b0 st dn u sh=AA (.ins "Shelf" [(("numbers":Str),D.ref dn),(("stored":Str),D.ref sa),(("parts":Str),D.ref pa),(("waiting":Str),D.ref wa)]):=λu=>c8 A.ins d1;walk_at "es";have n1:=c8 (u:=.dtt ((S++[E]).mapIdx λi e=>(e.key.py,D.int i))) A.sto (λz=>d4 z.symm);have n2:=c8 (u:=.dtt ((S++[E]).mapIdx λi e=>(e.key.py,D.int i))) A.par (λz=>d5 z.symm);have n0:b0 st dn (.dtt ((S++[E]).mapIdx λi e=>(e.key.py,D.int i))) dn=_:=c9;have a0:=a1 (.dtt ((S++[E]).mapIdx λi e=>(e.key.py,D.int i)));have nw:∃o,b0 st dn (.dtt ((S++[E]).mapIdx λi e=>(e.key.py,D.int i))) wa=AA o:=by
   by_cases z:wa=dn
   ·exact⟨_,by rw[z];exact c9⟩
   ·obtain⟨o,e⟩:=A.wai;exact⟨o,c8 e z⟩
  have K0:Kp [dn,sa,pa] st (b0 st dn (.dtt ((S++[E]).mapIdx λi e=>(e.key.py,D.int i)))):=Kp.refl.put (by simp);revert n1 n2 n0 a0 nw K0;generalize b0 st dn (.dtt ((S++[E]).mapIdx λi e=>(e.key.py,D.int i)))=st1;intro n1 n2 n0 a0 nw K0;refine⟨sh,"Shelf",_,.ref sa,rfl,a0,hc _ (by simp),rfl,by rw[v4 (.inl n1)];trivial,.inl ⟨_,rfl,by simp only[AV];lia,?_⟩⟩;refine N5 (λl acc env' st'=>st'=st1∧∃(pre suf:List Nat)(x:Option D),ns=pre++suf∧l=suf.map (λ(n:Nat)=>D.int (n:Int))∧acc=inn.take pre.length∧env'=[AA (.ref sh),x]) ?_ ?_ _ _ _ _ ⟨rfl,[],ns,AE,rfl,rfl,by simp,rfl⟩
  ·rintro acc env' st' ⟨rfl,pre,suf,x,e,el,rfl,rfl⟩;have:suf=[]:=by simpa using el.symm
   subst this;rw[BP]at e;subst e;rw[<-hlen,Ih];refine⟨trivial,λp hp=>⟨E1 (by lia),?_⟩⟩;have g1:=j6 (u:=.lst inn) n1 hp;rw[A4 g1];refine⟨A0 (by rw[AV];lia),?_⟩;have g2:=c8 (u:=.lst (S.map It3.t++[.tup (fr++inn)])) (j6 (u:=.lst inn) n2 hp) (λz=>d6 z.symm);have g3:=c8 (u:=.lst (S.map It3.t++[.tup (fr++inn)])) (j6 (u:=.lst inn) n0 hp) d4;have g4:=c8 (u:=.lst (S.map It3.t++[.tup (fr++inn)])) (j6 (u:=.lst inn) a0 hp) d2;have g5:b0 (b0 st' p (.lst inn)) sa (.lst (S.map It3.t++[.tup (fr++inn)])) sa=_:=c9;have gw:∃o,b0 (b0 st' p (.lst inn)) sa (.lst (S.map It3.t++[.tup (fr++inn)])) wa=AA o:=by
    by_cases z:wa=sa
    ·exact⟨_,by rw[z];exact c9⟩
    ·obtain⟨o,e⟩:=nw;exact⟨o,c8 (j6 e hp) z⟩
   have K1:Kp [dn,sa,pa] st (b0 (b0 st' p (.lst inn)) sa (.lst (S.map It3.t++[.tup (fr++inn)]))):=(K0.new hp).put (by simp);revert g2 g3 g4 g5 gw K1;generalize b0 (b0 st' p (.lst inn)) sa (.lst (S.map It3.t++[.tup (fr++inn)]))=st2;intro g2 g3 g4 g5 gw K1;walk_at "es";refine⟨sh,"Shelf",_,.ref pa,rfl,g4,hc _ (by simp),rfl,by rw[v4 (.inl g2)];trivial,?_⟩;rw[A4 g2];refine⟨A0 (by rw[AV];lia),?_⟩;walk_at "ek";walk_at "es";refine c0 (q S.length (S++[E]) _ ⟨c8 g4 d3,c8 g3 d5,?_,?_,?_,⟨λi e hi=>?_,?_⟩,by simp;lia,λe he=>?_⟩ (List.prefix_append S [E]) (by simp) (by rw[Aj (AU _),Jz,hE];rfl) (K1.put (by simp)))
   ·rw[Ag,hE];exact c8 g5 d6
   ·rw[c9,Ag,hE];rfl
   ·by_cases z:wa=pa
    ·exact⟨_,by rw[z];exact c9⟩
    ·obtain⟨o,e⟩:=gw;exact⟨o,c8 e z⟩
   ·by_cases hil:i<S.length
    ·rw[Ad hil]at hi;obtain⟨h1,inn',h2,h3,h4⟩:=A.wf.wh i e hi;refine⟨h1,inn',h2,h3,λj n hj=>?_⟩;obtain⟨l1,e',he',g⟩:=h4 j n hj;exact⟨l1,e',by rw[Ad (by lia)];exact he',g⟩
    ·rw[Aj (by lia)]at hi;have hi0:i-S.length=0:=by have:=(AR.mp hi).1;simp at this;lia
     rw[hi0]at hi;simp at hi;subst hi;rw[hE];refine⟨hfr,inn,rfl,hlen,λj n hj=>?_⟩;obtain⟨e',he',g⟩:=hns j n hj;have:=(AR.mp he').1;exact⟨by lia,e',by rw[Ad this];exact he',g⟩
   ·rw[Ag,Ew];refine⟨A.wf.nd,by simp,λx hx y hy z=>?_⟩;simp at hy;subst hy;obtain⟨e,he,rfl⟩:=Ce.mp hx;exact hno e he (by rw[z])
   ·rcases Bc.mp he with he|he
    ·exact A.fl e he
    ·rw[Bi]at he;subst he;rw[hE];exact⟨b1,b2⟩
  ·rintro d ds acc env' st' ih ⟨rfl,pre,suf,x,e,el,rfl,rfl⟩;refine⟨trivial,?_⟩;cases suf with
   |nil=>simp at el
   |cons m suf=>
    simp only[Aa,Ah]at el;obtain⟨rfl,rfl⟩:=el;obtain⟨e',he',g⟩:=hns pre.length m (by rw[e];simp);walk_at "ek";refine⟨sh,"Shelf",_,.ref sa,rfl,a0,hc _ (by simp),rfl,?_⟩;rw[l5 (.inl n1)];refine⟨e'.t,by rw[B1,Am,he'];rfl,ih _ _ _ ⟨rfl,pre++[m],suf,_,by rw[e];simp,rfl,?_,rfl⟩⟩;rw[Ac,AW,BQ,List.take_add_one,g];rfl
end
noncomputable def y6:D->Bool
 |.tup _=>AC
 |_=>AG
noncomputable def U0:D->List D
 |.tup ds=>ds.filter y6
 |_=>[]
mutual
noncomputable def dsz:D->Nat
 |.tup ds=>1+M8 ds
 |_=>1
noncomputable def M8:List D->Nat
 |[]=>0
 |d::r=>(if y6 d then dsz d else 0)+M8 r
end
theorem ax2:∀ds:List D,M8 ds=((ds.filter y6).map dsz).sum
 |[]=>rfl
 |d::r=>by
  rw[M8,ax2 r,List.filter_cons]
  by_cases h:y6 d=AC
  ·rw[if_pos h,if_pos h,Aa,Di]
  ·rw[if_neg h,if_neg h,Ik]
def V1(t:D):dsz t=1+((U0 t).map dsz).sum:=by
 cases t<;>first|rfl|skip
 rename_i ds;rw[dsz,ax2];rfl
def am2{d:D}(h:Lay d):y6 d=AC:=by cases h;rfl
def ak7{inn:List D}(h1:∀d∈fr,∃s:String,d=.str s)(h2:∀d∈inn,y6 d=AC):(fr++inn).filter y6=inn:=by
 rw[FN,HE.mpr (λd hd=>by obtain⟨s,rfl⟩:=h1 d hd;simp[y6]),DW];exact List.filter_eq_self.mpr h2
def cg8{t c:D}(h:Lay t)(hc:c∈U0 t):Lay c:=by
 cases h with
 |@mk fr inn h1 h2 _ _=>
  rw[U0,ak7 h1 λd hd=>am2 (h2 d hd)]at hc;exact h2 c hc
noncomputable def Nm(S:List It3)(t d:D):Prop:=∃(m:Nat)(e:It3),d=.int m∧S[m]?=AA e∧e.t=t
def Nm.mono{S:List It3}{t d:D}(h:Nm S t d)(hp:S <+: S'):Nm S' t d:=by
 obtain⟨m,e,rfl,h1,h2⟩:=h;obtain⟨r,rfl⟩:=hp;exact⟨m,e,rfl,by rw[Ad (AR.mp h1).1];exact h1,h2⟩
theorem a84{S:List It3}:∀{inn ds:List D},ds.length=inn.length->(∀(i:Nat)c' d,inn[i]?=AA c'->ds[i]?=AA d->Nm S c' d)->∃ns:List Nat,ds=ns.map (λ(n:Nat)=>D.int (n:Int))∧inn.length=ns.length∧∀(j n:Nat),ns[j]?=AA n->∃e,S[n]?=AA e∧inn[j]?=AA e.t
 |[],ds,hlen,_=>⟨[],Ay (by simpa using hlen),rfl,by simp⟩
 |x::inn,[],hlen,_=>by simp at hlen
 |x::inn,d::ds,hlen,hv=>by
  obtain⟨m,e,rfl,g1,g2⟩:=hv 0 x d rfl rfl;obtain⟨ns,i1,i2,i3⟩:=a84 (inn:=inn) (ds:=ds) (by simpa using hlen) λi c' d' e1 e2=>hv (i+1) c' d' (by simpa using e1) (by simpa using e2);refine⟨m::ns,by rw[i1];rfl,by simp[i2],λj n hj=>?_⟩;cases j with
  |zero=>simp at hj;subst hj;exact⟨e,g1,by rw[g2];rfl⟩
  |succ j=>
   obtain⟨e',a1,a2⟩:=i3 j n (by simpa using hj);exact⟨e',a1,by simpa using a2⟩
section
variable (T:PSh P G)
include T
def cu2(hl:ds.length<=2000)(hs:∀d∈ds,d.lit=AC)(q:∀a st',st a=AE->st' a=AA (.lst (ds.filter y6))->Kp [] st st'->Q (.ref a) st'):sem P G (n+1) "tuples_in" [.tup ds] st Q:=by
 refine g9 T.tin rfl [AA (.tup ds)] rfl ?_;unfold ag6;walk_at "es";refine⟨by lia,?_⟩;refine N5 (λl acc env' st'=>st'=st∧∃(pre:List D)(x:Option D),ds=pre++l∧acc=pre.filter y6∧env'=[x]) ?_ ?_ _ _ _ _ ⟨rfl,[],AE,rfl,rfl,rfl⟩
 ·rintro acc env' st' ⟨rfl,pre,x,e,rfl,rfl⟩;rw[BP]at e;subst e;exact⟨trivial,λp hp=>c0 (q p _ hp c9 (Kp.refl.new hp))⟩
 ·rintro d l acc env' st' ih ⟨rfl,pre,x,e,rfl,rfl⟩;refine⟨trivial,?_⟩;have hd:=hs d (by rw[e];simp);walk_at "ek";have go:∀(ty:String),tyD d st'=AA ty->(ty=="tuple"||(ty=="bool"&&"tuple"=="int"))=y6 d->C9 (Zg P G n) (E.isT "tuple" (E.v 0)) [AA d] st' λb st1=>if b=AC then u6 (λx=>True) (Tg.n 0) (C9 (Zg P G n) (E.isT "tuple" (E.v 0))) (λenv st Q=>∃d,env[0]?=AA (AA d)∧Q d st) (λacc st'=>∀(p:AI),st' p=AE->(j8 Q).rt (D.ref p) (b0 st' p (Ob.lst acc))) l (KB y6 pre++[d]) [AA d] st1 else u6 (λx=>True) (Tg.n 0) (C9 (Zg P G n) (E.isT "tuple" (E.v 0))) (λenv st Q=>∃d,env[0]?=AA (AA d)∧Q d st) (λacc st'=>∀(p:AI),st' p=AE->(j8 Q).rt (D.ref p) (b0 st' p (Ob.lst acc))) l (KB y6 pre) [AA d] st1:=λty h1 h2=>by
   show wpE (Zg P G n) (E.isT "tuple" (E.v 0)) [AA d] st' λx st1=>∃b,x=.bl b∧_;walk_at "ek";refine c42 h1 ?_;rw[h2];refine⟨_,rfl,?_⟩;cases hb:y6 d with
   |true=>
    rw[if_pos rfl];exact ih _ _ _ ⟨rfl,pre++[d],_,by rw[e];simp,by rw[FN];simp[hb],rfl⟩
   |false=>
    rw[if_neg (by decide)];exact ih _ _ _ ⟨rfl,pre++[d],_,by rw[e];simp,by rw[FN];simp[hb],rfl⟩
  cases d with
  |int i=>exact go "int" rfl rfl
  |str x=>exact go "str" rfl rfl
  |tup ds=>exact go "tuple" rfl rfl
  |_=>cases hd
theorem ce7:∀(m:Nat){t:D},dsz t<=m->Lay t->t.lit=AC:=by
 intro m
 induction m with
 |zero=>intro t h;rw[V1]at h;lia
 |succ m ih=>
  intro t h hl;have hs:=V1 t;cases hl with
  |@mk fr inn h1 h2 _ _=>
   have ht:=ak7 h1 λd hd=>am2 (h2 d hd);rw[al0,Y5];intro d hd
   rcases Bc.mp hd with hd|hd
   ·obtain⟨s,rfl⟩:=h1 d hd;exact as4 s
   ·refine ih ?_ (h2 d hd);rw[U0,ht]at hs;have:=Q3 dsz hd;lia
omit T in
theorem ShA.keepL{S:List It3}(A:ShA sh dn sa pa wa S st)(K:Kp L st st')(h:∀x∈L,x∉[sh,dn,sa,pa,wa]):ShA sh dn sa pa wa S st':=
 ⟨K.at' A.ins (λz=>h _ z (by simp)),K.at' A.num (λz=>h _ z (by simp)),K.at' A.sto (λz=>h _ z (by simp)),K.at' A.par (λz=>h _ z (by simp)),(by obtain⟨o,e⟩:=A.wai;exact⟨o,K.at' e (λz=>h _ z (by simp))⟩),A.wf,A.ml,A.fl⟩
omit T in
theorem ShA.keep{S:List It3}(A:ShA sh dn sa pa wa S st)(K:Kp [] st st'):ShA sh dn sa pa wa S st':=A.keepL K (by simp)
def b74{n:Nat}{S:List It3}(hn:1<=n)(A:ShA sh dn sa pa wa S st)(hd:[sh,dn,sa,pa].Nodup){wo:Ob}(hwo:st wa=AA wo)(hwd:wa∉[dn,sa,pa]){t:D}(ht:Lay t)(hz:dsz t<=2000)(hS:S.length+dsz t<=900000)
  (q:∀d S' st',Nm S' t d->S <+: S'->S'.length<=S.length+dsz t->ShA sh dn sa pa wa S' st'->st' wa=AA wo->Kp [sh,dn,sa,pa,wa] st st'->Q d st'):sem P G (n+3) (c7 "Shelf" "laid") [.ref sh,t] st Q:=by
 refine g9 T.laid rfl [AA (.ref sh),AA t,AE,AE,AE] rfl ?_;unfold ag2;walk_at "es";walk_at "es";refine⟨by rw[T.mop];rfl,by rw[T.tin];rfl,?_⟩;obtain⟨n,rfl⟩:∃m,n=m+1:=⟨n-1,by lia⟩;refine cf4 T.toPM (n:=n+1) (T:=D) (enc:=λd=>d) (subs:=U0) (size:=dsz) (DQ:=λd=>Lay d∧dsz d<=2000) (W:=List It3) (J:=λS st=>ShA sh dn sa pa wa S st∧st wa=AA wo) (le:=λS S'=>S <+: S') (L:=[sh,dn,sa,pa,wa]) (μ:=λS=>S.length) (B:=S.length+dsz t) (λs=>CD s) (λa b=>a.trans b) ?_ V1 (λc gc c' hc'=>⟨cg8 gc.1 hc',?_⟩) (F:=.fn "tuples_in") (show(P _).isSome=AC by rw[T.tin];rfl) (show Cok P (.clo _ _ _ _) from trivial) t hz ⟨ht,hz⟩ (V:=λ_ S t d _=>Nm S t d) (λv l _=>v.mono l) (AU _) ⟨A,hwo⟩ ?_ ?_ ?_ ?_
 ·rintro S st st' d ⟨A,ho⟩ hdn K;simp only[AM,Ae,or_false,not_or]at hdn;obtain⟨h1,h2,h3,h4,h5⟩:=hdn;exact⟨⟨K.at' A.ins (by simp;exact λz=>h1 z.symm),K.at' A.num (by simp;exact λz=>h2 z.symm),K.at' A.sto (by simp;exact λz=>h3 z.symm),K.at' A.par (by simp;exact λz=>h4 z.symm),(by obtain⟨o,e⟩:=A.wai;exact⟨o,K.at' e (by simp;exact λz=>h5 z.symm)⟩),A.wf,A.ml,A.fl⟩,K.at' ho (by simp;exact λz=>h5 z.symm)⟩
 ·have:=V1 c;have:=Q3 dsz hc';have:=gc.2;lia
 ·rintro S st ⟨A,_⟩ a ha;simp only[AM,Ae,or_false]at ha
  rcases ha with rfl|rfl|rfl|rfl|rfl
  ·exact⟨_,A.ins⟩
  ·exact⟨_,A.num⟩
  ·exact⟨_,A.sto⟩
  ·exact⟨_,A.par⟩
  ·exact A.wai
 ·rintro c st' Q S' gc _ ⟨A',ho'⟩ K q;have hlit:=ce7 T _ (AU _) gc.1;obtain⟨gl,_⟩:=gc;cases gl with
  |@mk fr inn h1 h2 b1 b2=>
   refine cu2 T (by rw[Ac];lia) (Y5.mp (by rw[al0]at hlit;exact hlit)) λa st2 ha hs K2=>q _ _ _ (.inr ⟨a,rfl,ha,?_⟩) (CD _) (AU _) ⟨A'.keep K2,K2.at' ho' (by simp)⟩ (K2.more (by simp));rw[hs,List.map_id'];rfl
 ·rintro c _ la st' Q ds S' gc hμ ⟨A',ho'⟩ K _ hla _ _ hl hlen hv _ q;obtain⟨gl,_⟩:=gc;cases gl with
  |@mk fr inn h1 h2 b1 b2=>
   have hf:=ak7 h1 λd hd=>am2 (h2 d hd);simp only[U0,hf]at hlen hv;obtain⟨ns,hns,hnl,hnn⟩:=a84 hlen hv;refine aa5 rfl [AA (.tup (fr++inn)),AA (.ref la),AA (.ref sh)] rfl ?_;walk_at "es";refine⟨sh,"Shelf",_,rfl,A'.ins,rfl,by rw[T.numb];rfl,?_⟩;rw[u0 (.inl hl)];walk_at "ek";rw[ba2 (.inl hl)];have hcut:z8 (fr++inn) AE (AA (((fr++inn).length:Int)-(ds.length:Int)))=fr:=by
    rw[Ac,hlen,show(((fr.length+inn.length:Nat):Int)-(inn.length:Int))=((fr.length:Nat):Int) by lia,cm6];simp
   rw[hcut,hns];refine as6 T A' hd h1 hnl hnn b1 (by lia) (by have:=A'.ml;lia) λm S2 st2 A2 hp2 hl2 hm2 K2=>c0 (q _ S2 st2 ⟨m,_,rfl,hm2,rfl⟩ hp2 hl2 ⟨A2,K2.at' ho' hwd⟩ (K2.more (by simp)))
 ·rintro _ d S' st' _ v l hμ ⟨A',ho'⟩ K;exact c0 (q d S' st' v l hμ A' ho' K)
end
noncomputable def Has(S:List It3)(t:D):Prop:=∃(m:Nat)(e:It3),S[m]?=AA e∧e.t=t
open Classical in
noncomputable def nb(S:List It3)(t:D):Nat:=if h:Has S t then Classical.choose h else 0
def Q8{S:List It3}{t:D}(h:Has S t):∃e,S[nb S t]?=AA e∧e.t=t:=by
 unfold nb;rw[dif_pos h];exact Classical.choose_spec h
def ab9{S:List It3}(w:Wf S){t:D}(h:S[m]?=AA e)(ht:e.t=t):nb S t=m:=by
 obtain⟨e',h1,h2⟩:=Q8 (S:=S) (t:=t) ⟨m,e,h,ht⟩;exact w.inj _ (AU _) h1 h (h2.trans ht.symm)
def Has.mono{S:List It3}{t:D}(h:Has S t)(hp:S <+: S'):Has S' t:=by
 obtain⟨m,e,h1,h2⟩:=h;obtain⟨r,rfl⟩:=hp;exact⟨m,e,by rw[Ad (AR.mp h1).1];exact h1,h2⟩
def cy4{S:List It3}{t d:D}(w:Wf S)(h:Nm S t d):Has S t∧d=.int (nb S t:Nat):=by
 obtain⟨m,e,rfl,h1,h2⟩:=h;exact⟨⟨m,e,h1,h2⟩,by rw[ab9 w h1 h2]⟩
def bb3{S:List It3}(w:Wf S){inn:List D}(h:Has S (.tup (fr++inn)))(h1:∀d∈fr,∃s:String,d=.str s)(h2:∀d∈inn,∃l,d=.tup l):(∀d∈inn,Has S d)∧∃e,S[nb S (.tup (fr++inn))]?=AA e∧e.ns=inn.map (nb S):=by
 obtain⟨e,he,ht⟩:=Q8 h;obtain⟨inn',g1,g2,g3,g4⟩:=w.inn he;have hh:e.fr++inn'=fr++inn:=by rw[g1]at ht;injection ht
 obtain⟨_,rfl⟩:=a79 (w.wh _ e he).1 h1 g3 h2 hh;refine⟨λd hd=>?_,e,he,?_⟩
 ·obtain⟨j,hj⟩:=DY.mp hd;have hjl:j<e.ns.length:=by rw[<-g2];exact(AR.mp hj).1
  obtain⟨_,e',he',hi⟩:=g4 j _ (AL hjl);rw[hj]at hi;cases hi;exact⟨_,e',he',rfl⟩
 ·refine GT λj=>?_
  by_cases hj:j<e.ns.length
  ·obtain⟨_,e',he',hi⟩:=g4 j _ (AL hj);rw[AL hj,Am,hi];show AA _=AA (nb S e'.t);rw[ab9 w he' rfl]
  ·rw[Bu (by lia),Bu (by rw[AV];lia)]
def be9{inn:List D}(he:ds=fr++inn)(h1:∀d∈fr,∃s:String,d=.str s)(h2:∀d∈inn,Lay d)(l1:fr.length<=10)(l2:inn.length<=1000):Lay (.tup ds):=by
 subst he;exact .mk h1 h2 l1 l2
def X2:∀d∈([.str w]:List D),∃s:String,d=.str s:=λd hd=>by simp at hd;subst hd;exact⟨w,rfl⟩
def am4{x y:D}(hx:Lay x)(hy:Lay y):Lay (.tup [.str w,x,y]):=be9 (fr:=[.str w]) (inn:=[x,y]) rfl X2 (λd hd=>by simp at hd;rcases hd with rfl|rfl<;>assumption) (by simp) (by simp)
def bg0:Lay (.tup [.str w]):=be9 (fr:=[.str w]) (inn:=[]) rfl X2 (λd hd=>by simp at hd) (by simp) (by simp)
theorem N8:∀k:Kd,Lay k.d
 |.non=>bg0
 |.one=>bg0
 |.eith a b=>am4 (N8 a) (N8 b)
 |.both a b=>am4 (N8 a) (N8 b)
 |.way a b=>am4 (N8 a) (N8 b)
def W2:∀k:Kd,∃l,k.d=.tup l
 |.non=>⟨_,rfl⟩
 |.one=>⟨_,rfl⟩
 |.eith _ _=>⟨_,rfl⟩
 |.both _ _=>⟨_,rfl⟩
 |.way _ _=>⟨_,rfl⟩
def al5(w:String){a b:Kd}(h1:dsz a.d+1<=2^(a.nest+1))(h2:dsz b.d+1<=2^(b.nest+1)):dsz (.tup [.str w,a.d,b.d])+1<=2^(1+max a.nest b.nest+1):=by
 have h3:2^(a.nest+1)<=2^(max a.nest b.nest+1):=BV (by decide) (by lia);have h4:2^(b.nest+1)<=2^(max a.nest b.nest+1):=BV (by decide) (by lia);have e:2^(1+max a.nest b.nest+1)=2^(max a.nest b.nest+1)*2:=by rw[show 1+max a.nest b.nest+1=(max a.nest b.nest+1)+1 by lia,Il]
 obtain⟨l1,e1⟩:=W2 a;obtain⟨l2,e2⟩:=W2 b;rw[dsz,M8,M8,M8,M8,e];have t1:y6 a.d=AC:=by rw[e1];rfl
 have t2:y6 b.d=AC:=by rw[e2];rfl
 rw[if_pos t1,if_pos t2,if_neg (by simp[y6])];lia
theorem M0:∀k:Kd,dsz k.d+1<=2^(k.nest+1)
 |.non=>by decide
 |.one=>by decide
 |.eith a b=>al5 _ (M0 a) (M0 b)
 |.both a b=>al5 _ (M0 a) (M0 b)
 |.way a b=>al5 _ (M0 a) (M0 b)
section
variable (T:PSh P G)
include T
def b13{S:List It3}(A:ShA sh dn sa pa wa S st){inn:List D}(h:Has S (.tup (fr++inn)))(h1:∀d∈fr,∃s:String,d=.str s)(h2:∀d∈inn,∃l,d=.tup l)(q:Q (y4 (inn.map (nb S))) st):sem P G (n+1) (c7 "Shelf" "within") [.ref sh,.int (nb S (.tup (fr++inn)):Nat)] st Q:=by
 obtain⟨_,e,he,hn⟩:=bb3 A.wf h h1 h2;refine g9 T.wthn rfl [AA (.ref sh),AA (.int (nb S (.tup (fr++inn)):Nat))] rfl ?_;unfold af6;walk_at "es";refine⟨sh,"Shelf",_,.ref pa,rfl,A.ins,by show _∈G.cls "Shelf";rw[T.cls];simp,rfl,?_⟩;rw[l5 (.inl A.par)];refine⟨y4 e.ns,by rw[B1,Am,he];rfl,c0 ?_⟩;rw[hn];exact q
def b61{S:List It3}(A:ShA sh dn sa pa wa S st){t:D}(h:Has S t)(q:Q t st):sem P G (n+1) (c7 "Shelf" "tuple_at") [.ref sh,.int (nb S t:Nat)] st Q:=by
 obtain⟨e,he,ht⟩:=Q8 h;refine g9 T.tup rfl [AA (.ref sh),AA (.int (nb S t:Nat))] rfl ?_;unfold ad6;walk_at "es";refine⟨sh,"Shelf",_,.ref sa,rfl,A.ins,by show _∈G.cls "Shelf";rw[T.cls];simp,rfl,?_⟩;rw[l5 (.inl A.sto)];exact⟨t,by rw[B1,Am,he,<-ht];rfl,c0 q⟩
def ba1{S:List It3}(A:ShA sh dn sa pa wa S st){d:D}{r:List D}(h:Has S (.tup (d::r)))(q:Q d st):sem P G (n+1) (c7 "Shelf" "word_at") [.ref sh,.int (nb S (.tup (d::r)):Nat)] st Q:=by
 obtain⟨e,he,ht⟩:=Q8 h;refine g9 T.word rfl [AA (.ref sh),AA (.int (nb S (.tup (d::r)):Nat))] rfl ?_;unfold ae2;walk_at "es";refine⟨sh,"Shelf",_,.ref sa,rfl,A.ins,by show _∈G.cls "Shelf";rw[T.cls];simp,rfl,?_⟩;rw[l5 (.inl A.sto)];refine⟨.tup (d::r),by rw[B1,Am,he,<-ht];rfl,?_⟩;walk_at "ek";exact c0 q
def b41(h0:st sh=AE)(q:∀dn sa pa wa st',ShA sh dn sa pa wa [] st'->[sh,dn,sa,pa].Nodup->(∀a∈[sh,dn,sa,pa,wa],st a=AE)->wa∉[dn,sa,pa]->wa≠sh->st' wa=AA (.lst [])->Kp [] st st'->Q .non st'):sem P G (n+1) (c7 "Shelf" "__init__") [.ref sh] (b0 st sh (.ins "Shelf" [])) Q:=by
 refine g9 T.init rfl [AA (.ref sh)] rfl ?_;unfold ad9;have hc:∀f∈([("numbers":Str),("stored":Str),("parts":Str),("waiting":Str)]:List Str),f∈G.cls "Shelf":=λf hf=>by rw[T.cls];exact hf
 walk_at "es";refine⟨T.kt,λdn hdn=>⟨sh,"Shelf",[],rfl,j6 c9 hdn,hc _ (by simp),by decide,?_⟩⟩;have n1:sh≠dn:=j7 c9 hdn;have d0:st dn=AE:=by rw[B9 n1.symm]at hdn;exact hdn
 have kS:∀{st':Sto}{u:Ob},Kp [] st st'->Kp [] st (b0 st' sh u):=λK b o nb e=>c8 (K b o nb e) (j7 e h0);have a1:b0 (b0 (b0 st sh (.ins "Shelf" [])) dn (.dtt [])) sh (.ins "Shelf" (j9 "numbers" (.ref dn) [])) sh=AA (.ins "Shelf" [(("numbers":Str),D.ref dn)]):=by rw[c9];rfl
 have a2:b0 (b0 (b0 st sh (.ins "Shelf" [])) dn (.dtt [])) sh (.ins "Shelf" (j9 "numbers" (.ref dn) [])) dn=AA (.dtt []):=c8 c9 n1.symm;have K1:Kp [] st (b0 (b0 (b0 st sh (.ins "Shelf" [])) dn (.dtt [])) sh (.ins "Shelf" (j9 "numbers" (.ref dn) []))):=kS ((kS Kp.refl).new hdn);revert a1 a2 K1;generalize b0 (b0 (b0 st sh (.ins "Shelf" [])) dn (.dtt [])) sh (.ins "Shelf" (j9 "numbers" (.ref dn) []))=s1;intro a1 a2 K1;walk_at "es";refine λsa hsa=>⟨sh,"Shelf",_,rfl,j6 a1 hsa,hc _ (by simp),by simp,?_⟩;have n2:sh≠sa:=j7 a1 hsa;have n3:dn≠sa:=j7 a2 hsa;have b1:b0 (b0 s1 sa (.lst [])) sh (.ins "Shelf" (j9 "stored" (.ref sa) [(("numbers":Str),D.ref dn)])) sh=AA (.ins "Shelf" [(("numbers":Str),D.ref dn),(("stored":Str),D.ref sa)]):=by rw[c9];simp[j9,t5]
 have b2:b0 (b0 s1 sa (.lst [])) sh (.ins "Shelf" (j9 "stored" (.ref sa) [(("numbers":Str),D.ref dn)])) dn=AA (.dtt []):=c8 (j6 a2 hsa) n1.symm;have b3:b0 (b0 s1 sa (.lst [])) sh (.ins "Shelf" (j9 "stored" (.ref sa) [(("numbers":Str),D.ref dn)])) sa=AA (.lst []):=c8 c9 n2.symm;have K2:Kp [] st (b0 (b0 s1 sa (.lst [])) sh (.ins "Shelf" (j9 "stored" (.ref sa) [(("numbers":Str),D.ref dn)]))):=kS (K1.new hsa);have s0:st sa=AE:=none_of K1 hsa;revert b1 b2 b3 K2;generalize b0 (b0 s1 sa (.lst [])) sh (.ins "Shelf" (j9 "stored" (.ref sa) [(("numbers":Str),D.ref dn)]))=s2;intro b1 b2 b3 K2;walk_at "es";refine λpa hpa=>⟨sh,"Shelf",_,rfl,j6 b1 hpa,hc _ (by simp),by simp,?_⟩;have n4:sh≠pa:=j7 b1 hpa;have n5:dn≠pa:=j7 b2 hpa;have n6:sa≠pa:=j7 b3 hpa;have c1:b0 (b0 s2 pa (.lst [])) sh (.ins "Shelf" (j9 "parts" (.ref pa) [(("numbers":Str),D.ref dn),(("stored":Str),D.ref sa)])) sh=AA (.ins "Shelf" [(("numbers":Str),D.ref dn),(("stored":Str),D.ref sa),(("parts":Str),D.ref pa)]):=by rw[c9];simp[j9,t5]
 have c2:b0 (b0 s2 pa (.lst [])) sh (.ins "Shelf" (j9 "parts" (.ref pa) [(("numbers":Str),D.ref dn),(("stored":Str),D.ref sa)])) dn=AA (.dtt []):=c8 (j6 b2 hpa) n1.symm;have c3:b0 (b0 s2 pa (.lst [])) sh (.ins "Shelf" (j9 "parts" (.ref pa) [(("numbers":Str),D.ref dn),(("stored":Str),D.ref sa)])) sa=AA (.lst []):=c8 (j6 b3 hpa) n2.symm;have c4:b0 (b0 s2 pa (.lst [])) sh (.ins "Shelf" (j9 "parts" (.ref pa) [(("numbers":Str),D.ref dn),(("stored":Str),D.ref sa)])) pa=AA (.lst []):=c8 c9 n4.symm;have K3:Kp [] st (b0 (b0 s2 pa (.lst [])) sh (.ins "Shelf" (j9 "parts" (.ref pa) [(("numbers":Str),D.ref dn),(("stored":Str),D.ref sa)]))):=kS (K2.new hpa);have p0:st pa=AE:=none_of K2 hpa;revert c1 c2 c3 c4 K3;generalize b0 (b0 s2 pa (.lst [])) sh (.ins "Shelf" (j9 "parts" (.ref pa) [(("numbers":Str),D.ref dn),(("stored":Str),D.ref sa)]))=s3;intro c1 c2 c3 c4 K3;walk_at "es";refine λwa hwa=>⟨sh,"Shelf",_,rfl,j6 c1 hwa,hc _ (by simp),by simp,?_⟩;have n7:sh≠wa:=j7 c1 hwa;walk_at "ek";refine a86 (q dn sa pa wa _ ⟨by rw[c9];simp[j9,t5],c8 (j6 c2 hwa) n1.symm,c8 (j6 c3 hwa) n2.symm,c8 (j6 c4 hwa) n4.symm,⟨_,c8 c9 n7.symm⟩,⟨by simp,by simp⟩,by simp,by simp⟩ ?_ ?_ ?_ n7.symm (c8 c9 n7.symm) (kS (K3.new hwa)))
 ·simp[n1,n2,n4,n3,n5,n6]
 ·intro a ha;simp only[AM,Ae,or_false]at ha
  rcases ha with rfl|rfl|rfl|rfl|rfl
  ·exact h0
  ·exact d0
  ·exact s0
  ·exact p0
  ·exact none_of K3 hwa
 ·simp only[AM,Ae,or_false,not_or];exact⟨(j7 c2 hwa).symm,(j7 c3 hwa).symm,(j7 c4 hwa).symm⟩
end
noncomputable def Rm(r:Int)(st:Sto)(a:AI):Prop:=st a=AA (.lst [.int r])
def Rm.keep(h:Rm r st b)(x:Kp L st st')(n:b∉L):Rm r st' b:=x.at' h n
def Rm.new{p:AI}{u:Ob}(h:Rm r st b)(hp:st p=AE):Rm r (b0 st p u) b:=j6 h hp
noncomputable def Pg.oc:Nat->Pg->Nat
 |i,.name n=>if n=i then 1 else 0
 |_,.star=>0
 |i,.pair t u=>t.oc i+u.oc i
 |i,.first t=>t.oc i
 |i,.second t=>t.oc i
 |i,.left _ t=>t.oc i
 |i,.right _ t=>t.oc i
 |i,.case t u v=>t.oc i+u.oc (i+1)+v.oc (i+1)
 |i,.way _ t=>t.oc (i+1)
 |i,.give t u=>t.oc i+u.oc i
 |i,.lets t u=>t.oc i+u.oc (i+1)
 |i,.never _ t=>t.oc i
noncomputable def Pg.nl(m:Nat):List Kd->Pg->Prop
 |_,.name _=>True
 |_,.star=>True
 |Γ,.pair t u=>t.nl m Γ∧u.nl m Γ
 |Γ,.first t=>t.nl m Γ
 |Γ,.second t=>t.nl m Γ
 |Γ,.left _ t=>t.nl m Γ
 |Γ,.right _ t=>t.nl m Γ
 |Γ,.case t u v=>t.nl m Γ∧∀a b,t.kind Γ=AA (.eith a b)->(a.nest<=m∧b.nest<=m)∧u.nl m (a::Γ)∧v.nl m (b::Γ)
 |Γ,.way a t=>t.nl m (a::Γ)
 |Γ,.give t u=>t.nl m Γ∧u.nl m Γ
 |Γ,.lets t u=>t.nl m Γ∧∀a,t.kind Γ=AA a->a.nest<=m∧u.nl m (a::Γ)
 |Γ,.never _ t=>t.nl m Γ
noncomputable def Cn(e:Int)(deep:Nat)(Γ:List Kd)(p:Pg)(r r':Int):Prop:=
 ((1<=r->-(2*(deep:Int))<=r')∧(e=0->r<=0->r'=r-1)∧r'<=r-1+e)∧(∀(i:Nat)(a:Kd),Γ[i]?=AA a->a≠.non->3*(p.oc i:Int)<=2*(r-r'+e)+1∧(3*(p.oc i:Int)=2*(r-r'+e)+1->(p.parts:Int)=r-r'+e))∧p.nl 6 Γ
section
variable {d:Nat} {b:Kd} {t u v:Pg} {r1 r2 r3:Int}
def Cn.leaf(h:(∀i,p.oc i=0)∧∀Δ,p.nl 6 Δ):Cn 1 d Γ p r r:=⟨⟨λ_=>by lia,λz=>by lia,by lia⟩,λi a _ _=>by rw[h.1 i];lia,h.2 Γ⟩
def Cn.k1(c1:Cn 0 d Γ t r r1)(ho:∀i,p.oc i=t.oc i)(hn:t.nl 6 Γ->p.nl 6 Γ):Cn 1 (d+1) Γ p r r1:=
 ⟨⟨λz=>by have:=c1.1.1 z;lia,λz=>by lia,by have:=c1.1.2.2;lia⟩,λi a h1 h2=>by have:=c1.2.1 i a h1 h2;rw[ho i];lia,hn c1.2.2⟩
def Cn.k1b(c1:Cn 0 d (b::Γ) t r r1)(ho:∀i,p.oc i=t.oc (i+1))(hn:t.nl 6 (b::Γ)->p.nl 6 Γ):Cn 1 (d+1) Γ p r r1:=
 ⟨⟨λz=>by have:=c1.1.1 z;lia,λz=>by lia,by have:=c1.1.2.2;lia⟩,λi a h1 h2=>by have:=c1.2.1 (i+1) a (by simpa using h1) h2;rw[ho i];lia,hn c1.2.2⟩
def Cn.k2(c1:Cn 0 d Γ t r r1)(c2:Cn 0 d Γ u r1 r2)(ho:∀i,p.oc i=t.oc i+u.oc i)(hn:t.nl 6 Γ->u.nl 6 Γ->p.nl 6 Γ):Cn 1 (d+1) Γ p r r2:=
 ⟨⟨λz=>by have:=c1.1.1 z;have:=c2.1.1;have:=c2.1.2.1 rfl;lia,λz=>by lia,by have:=c1.1.2.2;have:=c2.1.2.2;lia⟩,λi a h1 h2=>by have:=c1.2.1 i a h1 h2;have:=c2.2.1 i a h1 h2;rw[ho i];lia,hn c1.2.2 c2.2.2⟩
def Cn.k2b(c1:Cn 0 d Γ t r r1)(c2:Cn 0 d (b::Γ) u r1 r2)(ho:∀i,p.oc i=t.oc i+u.oc (i+1))(hn:t.nl 6 Γ->u.nl 6 (b::Γ)->p.nl 6 Γ):Cn 1 (d+1) Γ p r r2:=
 ⟨⟨λz=>by have:=c1.1.1 z;have:=c2.1.1;have:=c2.1.2.1 rfl;lia,λz=>by lia,by have:=c1.1.2.2;have:=c2.1.2.2;lia⟩,λi a h1 h2=>by have:=c1.2.1 i a h1 h2;have:=c2.2.1 (i+1) a (by simpa using h1) h2;rw[ho i];lia,hn c1.2.2 c2.2.2⟩
def Cn.k3{b':Kd}(c1:Cn 0 d Γ t r r1)(c2:Cn 0 d (b::Γ) u r1 r2)(c3:Cn 0 d (b'::Γ) v r2 r3)(hn:t.nl 6 Γ->u.nl 6 (b::Γ)->v.nl 6 (b'::Γ)->(Pg.case t u v).nl 6 Γ):Cn 1 (d+1) Γ (.case t u v) r r3:=
 ⟨⟨λz=>by have:=c1.1.1 z;have:=c2.1.1;have:=c2.1.2.1 rfl;have:=c3.1.1;have:=c3.1.2.1 rfl;lia,λz=>by lia,by have:=c1.1.2.2;have:=c2.1.2.2;have:=c3.1.2.2;lia⟩,λi a h1 h2=>by have:=c1.2.1 i a h1 h2;have:=c2.2.1 (i+1) a (by simpa using h1) h2;have:=c3.2.1 (i+1) a (by simpa using h1) h2;simp only[Pg.oc,Pg.parts];lia,hn c1.2.2 c2.2.2 c3.2.2⟩
end
def G8{k:Kd}:[k.d]++Γ.map Kd.d=(k::Γ).map Kd.d:=rfl
def J6{a b:Nat}(h:a+b<=1000):a+b<=sizeLine:=E1 (by lia)
def Kp.w2(b:AI)(h:Kp [a] st st'):Kp [a,b] st st':=h.more (by simp)
section
variable (B:PB P) 
include B
def ak0:∀(k:Kd){Γ:List Kd}{n:Nat}{Q:DK},k.good->k.bd 100->k.nest<=6->k.nest+4<=n->Γ.length+k.nest<=999->(∀p:Pg,p.kind Γ=AA k->p.hgt<=k.nest+1->p.parts+1<=2^(k.nest+1)->p.kn 6->((∀i,p.oc i=0)∧∀Δ,p.nl 6 Δ)->Q p.d st)->sem P G n "_law_least" [k.d,.tup (Γ.map Kd.d)] st Q:=by
 intro k
 induction k with
 |non=>intro Γ n Q g;exact g.elim
 |one=>
  intro Γ n Q g bd n6 hn hΓ q;obtain⟨n,rfl⟩:∃k,n=k+1:=⟨n-1,by lia⟩;refine g9 B.least rfl [AA Kd.one.d,AA (.tup (Γ.map Kd.d)),AE,AE] rfl ?_;unfold P5;simp only[Kd.d];walk_at "es";walk_at "es";walk_at "es";walk_at "es";exact c0 (q .star rfl (by decide) (by decide) trivial ⟨λ_=>rfl,λ_=>trivial⟩)
 |both a b iha ihb=>
  intro Γ n Q g bd n6 hn hΓ q;obtain⟨n,rfl⟩:∃k,n=k+1:=⟨n-1,by lia⟩;simp only[Kd.nest]at hn hΓ n6;refine g9 B.least rfl [AA (Kd.both a b).d,AA (.tup (Γ.map Kd.d)),AE,AE] rfl ?_;unfold P5;simp only[Kd.d];walk_at "es";walk_at "es";walk_at "es";walk_at "es";walk_at "es";refine⟨by rw[B.least];rfl,iha g.1 bd.1 (by lia) (by lia) (by lia) λp k1 h1 p1 m1 o1=>⟨by rw[B.least];rfl,ihb g.2 bd.2.1 (by lia) (by lia) (by lia) λr k2 h2 p2 m2 o2=>?_⟩⟩;have e1:2^(a.nest+1)<=2^(max a.nest b.nest+1):=BV (by decide) (by lia);have e2:2^(b.nest+1)<=2^(max a.nest b.nest+1):=BV (by decide) (by lia);have e3:2^(1+max a.nest b.nest+1)=2*2^(max a.nest b.nest+1):=by rw[show 1+max a.nest b.nest+1=(max a.nest b.nest+1)+1 by lia,Il,GR]
  exact c0 (q (.pair p r) (by simp only[Pg.kind,k1,k2]) (by simp only[Pg.hgt,Kd.nest];lia) (by simp only[Pg.parts,Kd.nest];lia) ⟨m1,m2⟩ ⟨λi=>by simp only[Pg.oc,o1.1,o2.1],λΔ=>⟨o1.2 Δ,o2.2 Δ⟩⟩)
 |way a b iha ihb=>
  intro Γ n Q g bd n6 hn hΓ q;obtain⟨n,rfl⟩:∃k,n=k+1:=⟨n-1,by lia⟩;simp only[Kd.nest]at hn hΓ n6;refine g9 B.least rfl [AA (Kd.way a b).d,AA (.tup (Γ.map Kd.d)),AE,AE] rfl ?_;unfold P5;simp only[Kd.d];walk_at "es";walk_at "es";walk_at "es";walk_at "es";walk_at "es";walk_at "es";refine⟨J6 (by simp only[AV];lia),?_⟩;rw[G8];walk_at "es";refine⟨by rw[B.least];rfl,ihb g.2.1 bd.2.1 (by lia) (by lia) (by simp only[AW];lia) λr k2 h2 p2 m2 o2=>?_⟩;have e2:2^(b.nest+1)<=2^(max a.nest b.nest+1):=BV (by decide) (by lia);have e3:2^(1+max a.nest b.nest+1)=2*2^(max a.nest b.nest+1):=by rw[show 1+max a.nest b.nest+1=(max a.nest b.nest+1)+1 by lia,Il,GR]
  have e4:0<2^(max a.nest b.nest+1):=pow_pos (by decide);exact c0 (q (.way a r) (by simp only[Pg.kind,k2]) (by simp only[Pg.hgt,Kd.nest];lia) (by simp only[Pg.parts,Kd.nest];lia) ⟨by lia,m2⟩ ⟨λi=>by simp only[Pg.oc,o2.1],λΔ=>o2.2 (a::Δ)⟩)
 |eith a b iha ihb=>
  intro Γ n Q g bd n6 hn hΓ q;obtain⟨n,rfl⟩:∃k,n=k+1:=⟨n-1,by lia⟩;simp only[Kd.nest]at hn hΓ n6;refine g9 B.least rfl [AA (Kd.eith a b).d,AA (.tup (Γ.map Kd.d)),AE,AE] rfl ?_;unfold P5;simp only[Kd.d];walk_at "es";walk_at "es";walk_at "es";walk_at "es";walk_at "es";walk_at "es";have e1:2^(a.nest+1)<=2^(max a.nest b.nest+1):=BV (by decide) (by lia);have e2:2^(b.nest+1)<=2^(max a.nest b.nest+1):=BV (by decide) (by lia);have e3:2^(1+max a.nest b.nest+1)=2*2^(max a.nest b.nest+1):=by rw[show 1+max a.nest b.nest+1=(max a.nest b.nest+1)+1 by lia,Il,GR]
  have e4:0<2^(max a.nest b.nest+1):=pow_pos (by decide);refine⟨by rw[B.count];rfl,G6 B.toPB0 a (m:=100) (by lia) (W7 bd.1) (by decide) ?_⟩;walk_at "ek"
  by_cases ha:(0:Int)<a.cnt
  ·simp only[ha,if_true];have ga:a.good:=by
    rcases g with g|g|g
    ·exact g.1
    ·rw[g.1]at ha;simp[Kd.cnt]at ha
    ·exact g.1
   walk_at "es";refine⟨by rw[B.least];rfl,iha ga bd.1 (by lia) (by lia) (by lia) λp k1 h1 p1 m1 o1=>?_⟩;exact c0 (q (.left b p) (by simp only[Pg.kind,k1]) (by simp only[Pg.hgt,Kd.nest];lia) (by simp only[Pg.parts,Kd.nest];lia) ⟨by lia,m1⟩ ⟨λi=>by simp only[Pg.oc,o1.1],λΔ=>o1.2 Δ⟩)
  ·simp only[ha,if_false];have gb:b.good:=by
    rcases g with g|g|g
    ·exact g.2
    ·exact g.2
    ·exact absurd (Kd.good_pos g.1) (by lia)
   walk_at "es";refine⟨by rw[B.least];rfl,ihb gb bd.2.1 (by lia) (by lia) (by lia) λp k1 h1 p1 m1 o1=>?_⟩;exact c0 (q (.right a p) (by simp only[Pg.kind,k1]) (by simp only[Pg.hgt,Kd.nest];lia) (by simp only[Pg.parts,Kd.nest];lia) ⟨by lia,m1⟩ ⟨λi=>by simp only[Pg.oc,o1.1],λΔ=>o1.2 Δ⟩)
noncomputable def GSp(e:Int)(P:i8)(G:Gs)(f:Str)(n dp deep:Nat):Prop:=∀{da ra:AI}{k:Kd}{Γ:List Kd}{st:Sto}{Q:DK}{r:Int},da≠ra->r8 st da->Rm r st ra->k.good->k.bd 100->k.nest<=dp->Γ.length+deep<=900 ->
 (∀(p:Pg)st' r',p.kind Γ=AA k->p.hgt<=deep+7->p.kn 6->Cn e deep Γ p r r'->r8 st' da->Rm r' st' ra->Kp [da,ra] st st'->Q p.d st')->sem P G n f [.ref da,k.d,.tup (Γ.map Kd.d),.ref ra,.int deep] st Q
def cd7{deep:Nat}(hn:12<=n)(ih:GSp 0 P G "_law_grown" n 5 deep):GSp 1 P G "_law_made" (n+1) 5 (deep+1):=by
 intro da ra k Γ st Q r0 hne I R g bd n5 hΓ q;have ed:((deep+1:Nat):Int)-1=(deep:Nat):=by lia
 obtain⟨n,rfl⟩:∃m,n=m+1:=⟨n-1,by lia⟩;cases k with
 |non=>exact g.elim
 |one=>
  refine g9 B.made rfl [AA (.ref da),AA Kd.one.d,AA (.tup (Γ.map Kd.d)),AA (.ref ra),AA (.int (deep+1:Nat)),AE,AE,AE,AE] rfl ?_;unfold L5;simp only[Kd.d];walk_at "es";walk_at "es";walk_at "es";exact⟨by rw[B.least];rfl,ak0 B .one g bd (by decide) (by simp only[Kd.nest];lia) (by simp only[Kd.nest];lia) λp k1 h1 _ m1 o1=>c0 (q p _ _ k1 (by simp only[Kd.nest]at h1;lia) m1 (Cn.leaf o1) I R Kp.refl)⟩
 |both a b=>
  simp only[Kd.nest]at n5;refine g9 B.made rfl [AA (.ref da),AA (Kd.both a b).d,AA (.tup (Γ.map Kd.d)),AA (.ref ra),AA (.int (deep+1:Nat)),AE,AE,AE,AE] rfl ?_;unfold L5;simp only[Kd.d];walk_at "es";walk_at "es";walk_at "es";walk_at "es";rw[ed];refine⟨by rw[B.grown];rfl,ih hne I R g.1 bd.1 (by lia) (by lia) λp st1 r1 k1 h1 m1 c1 I1 R1 K1=>?_⟩;walk_at "es";rw[ed];refine⟨by rw[B.grown];rfl,ih hne I1 R1 g.2 bd.2.1 (by lia) (by lia) λp2 st2 r2 k2 h2 m2 c2 I2 R2 K2=>?_⟩;exact c0 (q (.pair p p2) _ _ (by simp only[Pg.kind,k1,k2]) (by simp only[Pg.hgt];lia) ⟨m1,m2⟩ (c1.k2 c2 (λ_=>rfl) λx y=>⟨x,y⟩) I2 R2 (K1.trans K2))
 |way a b=>
  simp only[Kd.nest]at n5;refine g9 B.made rfl [AA (.ref da),AA (Kd.way a b).d,AA (.tup (Γ.map Kd.d)),AA (.ref ra),AA (.int (deep+1:Nat)),AE,AE,AE,AE] rfl ?_;unfold L5;simp only[Kd.d];walk_at "es";walk_at "es";walk_at "es";walk_at "es";walk_at "es";rw[G8,ed];refine⟨by rw[B.grown];rfl,J6 (by simp only[AV];lia),ih hne I R g.2.1 bd.2.1 (by lia) (by simp only[AW];lia) λp st1 r1 k1 h1 m1 c1 I1 R1 K1=>?_⟩;exact c0 (q (.way a p) _ _ (by simp only[Pg.kind,k1]) (by simp only[Pg.hgt];lia) ⟨by lia,m1⟩ (c1.k1b (λ_=>rfl) λx=>x) I1 R1 K1)
 |eith a b=>
  simp only[Kd.nest]at n5;refine g9 B.made rfl [AA (.ref da),AA (Kd.eith a b).d,AA (.tup (Γ.map Kd.d)),AA (.ref ra),AA (.int (deep+1:Nat)),AE,AE,AE,AE] rfl ?_;unfold L5;simp only[Kd.d];walk_at "es";walk_at "es";walk_at "es";walk_at "es";walk_at "es";refine⟨by rw[B.next];rfl,B0 B.toPB0 (by decide) I λr st1 r0 r1 I1 K1=>?_⟩;have R1:=R.keep K1 (by simp;exact λz=>hne z.symm);have K1:=K1.w2 ra;have fin:∀(s:Int),(s=0∧a.good)∨(s=1∧b.good)->f8 (Zg P G (n+1)) (L5.body.drop 6) (j8 Q) [AA (.ref da),AA (Kd.eith a b).d,AA (.tup (Γ.map Kd.d)),AA (.ref ra),AA (.int (deep+1:Nat)),AA (.str "either"),AE,AA (.int s),AE] st1:=by
   intro s hs;simp only[L5,Ss.drop,Kd.d]
   rcases hs with⟨rfl,ga⟩|⟨rfl,gb⟩
   ·walk_at "es";rw[ed];refine⟨by rw[B.grown];rfl,a.d,rfl,ih hne I1 R1 ga bd.1 (by lia) (by lia) λp st2 r2 k2 h2 m2 c2 I2 R2 K2=>?_⟩;walk_at "es";intro x hx;walk_at "ek";exact⟨b.d,rfl,c0 (q (.left b p) _ _ (by simp only[Pg.kind,k2]) (by simp only[Pg.hgt];lia) ⟨by lia,m2⟩ (c2.k1 (λ_=>rfl) λx=>x) (I2.new hx) (R2.new hx) ((K1.trans K2).new hx))⟩
   ·walk_at "es";rw[ed];refine⟨by rw[B.grown];rfl,b.d,rfl,ih hne I1 R1 gb bd.2.1 (by lia) (by lia) λp st2 r2 k2 h2 m2 c2 I2 R2 K2=>?_⟩;walk_at "es";intro x hx;walk_at "ek";exact⟨a.d,rfl,c0 (q (.right a p) _ _ (by simp only[Pg.kind,k2]) (by simp only[Pg.hgt];lia) ⟨by lia,m2⟩ (c2.k1 (λ_=>rfl) λx=>x) (I2.new hx) (R2.new hx) ((K1.trans K2).new hx))⟩
  have go:∀c:Kd,c.good∨c=.non->(c.cnt:Int)≠0->c.good:=λc h hz=>h.elim id λe=>by subst e;simp[Kd.cnt]at hz
  have ga:a.good∨a=.non:=by rcases g with g|g|g<;>simp[g]
  have gb:b.good∨b=.non:=by rcases g with g|g|g<;>simp[g]
  walk_at "es";obtain rfl|rfl:r=0∨r=1:=by lia
  ·refine⟨by rw[B.count];rfl,a.d,rfl,G6 B.toPB0 a (m:=100) (by lia) (W7 bd.1) (by decide) ?_⟩;walk_at "ek"
   by_cases hz:(a.cnt:Int)=0
   ·simp only[hz,if_true];walk_at "es";exact fin 1 (.inr ⟨rfl,g.elim (λg=>g.2) λg=>g.elim (λg=>g.2) λg=>absurd (Kd.good_pos g.1) (by lia)⟩)
   ·simp only[hz,if_false];exact fin 0 (.inl ⟨rfl,go a ga hz⟩)
  ·refine⟨by rw[B.count];rfl,b.d,rfl,G6 B.toPB0 b (m:=100) (by lia) (W7 bd.2.1) (by decide) ?_⟩;walk_at "ek"
   by_cases hz:(b.cnt:Int)=0
   ·simp only[hz,if_true];walk_at "es";exact fin 0 (.inl ⟨rfl,g.elim (λg=>g.1) λg=>g.elim (λg=>absurd (Kd.good_pos g.2) (by lia)) λg=>g.1⟩)
   ·simp only[hz,if_false];exact fin 1 (.inr ⟨rfl,go b gb hz⟩)
omit B in
theorem cq9{k:Kd}(h:k∈Γ):∃j:Nat,Γ[j]?=AA k∧∀(i:Nat)c,i<j->Γ[i]?=AA c->c≠k:=by
 induction Γ with
 |nil=>cases h
 |cons c Γ ih=>
  by_cases e:c=k
  ·exact⟨0,by rw[e];rfl,λi c hi=>by lia⟩
  ·obtain⟨j,hj,hb⟩:=ih (by rcases AM.mp h with z|z;exact absurd z.symm e;exact z);refine⟨j+1,hj,λi d hi hd=>?_⟩;cases i with
   |zero=>cases hd;exact e
   |succ i=>exact hb i d (by lia) hd
omit B in
theorem cx2{k:Kd}(h:k∈Γ)(hn:k.nest<=100)(q:∀j:Nat,Γ[j]?=AA k->Q (.int j) st):N9 (.tup (Γ.map Kd.d)) k.d st Q:=by
 obtain⟨j,hj,hb⟩:=cq9 h;refine⟨t9 k,ai4 Γ,by rw[z9];lia,j,k.d,by rw[Am,hj];rfl,by rw[E9];simp,λi e hi he=>?_,q j hj⟩;rw[Am]at he;cases hc:Γ[i]? with
 |none=>rw[hc]at he;cases he
 |some c=>rw[hc]at he;cases he;rw[E9];simp[hb i c hi hc]
omit B in
theorem cw7{k:Kd}:((Γ.map Kd.d).any λy=>deq y k.d)=AB (k∈Γ):=by
 induction Γ with
 |nil=>rfl
 |cons c Γ ih=>rw[Aa,Ef,ih,E9];simp only[AM,Iz];congr 1;exact decide_eq_decide.mpr ⟨Ib,Ib⟩
omit B in
theorem b86{d:Nat}{k:Kd}{j:Nat}(h:Γ[j]?=AA .non):Cn 1 d Γ (.never k (.name j)) r r:=
 ⟨⟨λ_=>by lia,λz=>by lia,by lia⟩,λi a h1 h2=>by
  have:j≠i:=λz=>by subst z;rw[h]at h1;cases h1;exact h2 rfl
  simp only[Pg.oc,this,if_false];lia,trivial⟩
def b93{deep:Nat}(hn:12<=n)(ih:GSp 0 P G "_law_grown" n 5 deep):GSp 1 P G "_law_asked" (n+1) 4 (deep+1):=by
 intro da ra k Γ st Q r0 hne I R g bd n5 hΓ q;have ed:((deep+1:Nat):Int)-1=(deep:Nat):=by lia
 obtain⟨n,rfl⟩:∃m,n=m+1:=⟨n-1,by lia⟩;have hra:ra∉[da]:=by simp;exact λz=>hne z.symm
 refine g9 B.asked rfl [AA (.ref da),AA k.d,AA (.tup (Γ.map Kd.d)),AA (.ref ra),AA (.int (deep+1:Nat)),AE,AE,AE,AE,AE] rfl ?_;unfold N0;walk_at "es";refine⟨by rw[B.kind];rfl,aa4 B.toPB0 (most:=4) (by decide) (by decide) 1 (by lia) I λko st1 go bo no I1 K1=>?_⟩;have R1:=R.keep K1 hra;have K1:=K1.w2 ra;have fin:∀ko:Kd,ko.good->ko.bd 4->ko.nest<=1->(Kd.both k ko).bd 100->(Kd.both ko k).bd 100->(Kd.way ko k).bd 100->f8 (Zg P G (n+1)) (N0.body.drop 2) (j8 Q) [AA (.ref da),AA k.d,AA (.tup (Γ.map Kd.d)),AA (.ref ra),AA (.int (deep+1:Nat)),AA ko.d,AE,AE,AE,AE] st1:=by
  intro ko go bo no b1 b2 b3;simp only[N0,Ss.drop];walk_at "es";refine⟨by rw[B.next];rfl,B0 B.toPB0 (by decide) I1 λr st2 r0 r1 I2 K2=>?_⟩;have R2:=R1.keep K2 hra;have K2:=K1.trans (K2.w2 ra);have bo':=Kd.bd_mono (show 4<=100 by decide) bo;walk_at "es"
  by_cases h0:r=0
  ·simp only[h0,if_true];walk_at "es";rw[ed];refine⟨by rw[B.grown];rfl,ih (k:=.both k ko) hne I2 R2 ⟨g,go⟩ b1 (by simp only[Kd.nest];lia) (by lia) λp st3 r3 k3 h3 m3 c3 I3 R3 K3=>?_⟩;exact c0 (q (.first p) _ _ (by simp only[Pg.kind,k3]) (by simp only[Pg.hgt];lia) m3 (c3.k1 (λ_=>rfl) λx=>x) I3 R3 (K2.trans K3))
  simp only[h0,if_false];walk_at "es"
  by_cases h1:r=1
  ·simp only[h1,if_true];walk_at "es";rw[ed];refine⟨by rw[B.grown];rfl,ih (k:=.both ko k) hne I2 R2 ⟨go,g⟩ b2 (by simp only[Kd.nest];lia) (by lia) λp st3 r3 k3 h3 m3 c3 I3 R3 K3=>?_⟩;exact c0 (q (.second p) _ _ (by simp only[Pg.kind,k3]) (by simp only[Pg.hgt];lia) m3 (c3.k1 (λ_=>rfl) λx=>x) I3 R3 (K2.trans K3))
  simp only[h1,if_false];walk_at "es"
  by_cases h2:r=2
  ·simp only[h2,if_true];walk_at "es";rw[ed];refine⟨by rw[B.grown];rfl,ih (k:=.way ko k) hne I2 R2 ⟨.inl go,g,BF (Kd.bd_le bo) (by decide)⟩ b3 (by simp only[Kd.nest];lia) (by lia) λp st3 r3 k3 h3 m3 c3 I3 R3 K3=>?_⟩;walk_at "es";rw[ed];refine⟨by rw[B.grown];rfl,ih (k:=ko) hne I3 R3 go bo' (by lia) (by lia) λp4 st4 r4 k4 h4 m4 c4 I4 R4 K4=>?_⟩;exact c0 (q (.give p p4) _ _ (by simp only[Pg.kind,k3,k4,if_true]) (by simp only[Pg.hgt];lia) ⟨m3,m4⟩ (c3.k2 c4 (λ_=>rfl) λx y=>⟨x,y⟩) I4 R4 ((K2.trans K3).trans K4))
  simp only[h2,if_false];walk_at "es"
  by_cases h3:r=3
  ·simp only[h3,if_true];walk_at "es";rw[ed];refine⟨by rw[B.grown];rfl,ih (k:=ko) hne I2 R2 go bo' (by lia) (by lia) λp st3 r3 k3 h3 m3 c3 I3 R3 K3=>?_⟩;walk_at "es";rw[ed,G8];refine⟨by rw[B.grown];rfl,J6 (by simp only[AV];lia),ih (k:=k) hne I3 R3 g bd (by lia) (by simp only[AW];lia) λp4 st4 r4 k4 h4 m4 c4 I4 R4 K4=>?_⟩;exact c0 (q (.lets p p4) _ _ (by simp only[Pg.kind,k3,k4]) (by simp only[Pg.hgt];lia) ⟨m3,m4⟩ (c3.k2b c4 (λ_=>rfl) λx y=>⟨x,λa ha=>by rw[k3]at ha;cases ha;exact⟨by lia,y⟩⟩) I4 R4 ((K2.trans K3).trans K4))
  simp only[h3,if_false];have fin2:f8 (Zg P G (n+1)) (N0.body.drop 8) (j8 Q) [AA (.ref da),AA k.d,AA (.tup (Γ.map Kd.d)),AA (.ref ra),AA (.int (deep+1:Nat)),AA ko.d,AA (.int r),AE,AE,AE] st2:=by
   simp only[N0,Ss.drop];walk_at "es";refine⟨by rw[B.kind];rfl,aa4 B.toPB0 (most:=4) (by decide) (by decide) 1 (by lia) I2 λkm st3 gm bm nm I3 K3=>?_⟩;have R3:=R2.keep K3 hra;have K3:=K2.trans (K3.w2 ra);have bm':=Kd.bd_mono (show 4<=100 by decide) bm;have lo:=Kd.bd_le bo;have lm:=Kd.bd_le bm;walk_at "es";rw[ed];refine⟨by rw[B.grown];rfl,ih (k:=.eith ko km) hne I3 R3 (.inl ⟨go,gm⟩) ⟨bo',bm',by lia⟩ (by simp only[Kd.nest];lia) (by lia) λp4 st4 r4 k4 h4 m4 c4 I4 R4 K4=>?_⟩;walk_at "es";rw[ed,G8];refine⟨by rw[B.grown];rfl,J6 (by simp only[AV];lia),ih (k:=k) hne I4 R4 g bd (by lia) (by simp only[AW];lia) λp5 st5 r5 k5 h5 m5 c5 I5 R5 K5=>?_⟩;walk_at "es";rw[ed,G8];refine⟨by rw[B.grown];rfl,J6 (by simp only[AV];lia),ih (k:=k) hne I5 R5 g bd (by lia) (by simp only[AW];lia) λp6 st6 r6 k6 h6 m6 c6 I6 R6 K6=>?_⟩;exact c0 (q (.case p4 p5 p6) _ _ (by simp only[Pg.kind,k4,k5,k6,if_true]) (by simp only[Pg.hgt];lia) ⟨m4,m5,m6⟩ (c4.k3 c5 c6 λx y z=>⟨x,λa b ha=>by rw[k4]at ha;cases ha;exact⟨⟨by lia,by lia⟩,y,z⟩⟩) I6 R6 (((K3.trans K4).trans K5).trans K6))
  have hnone:(D.tup [.str "none"])=Kd.non.d:=rfl;walk_at "es"
  by_cases h4:r=4
  ·simp only[h4,if_true];rw[hnone,cw7];refine⟨t9 _,ai4 _,by rw[z9];decide,?_⟩;walk_at "ek"
   by_cases hm:Kd.non∈Γ
   ·simp only[hm,if_true];walk_at "es";rw[hnone];refine cx2 hm (by decide) λj hj=>?_;exact c0 (q (.never k (.name j)) _ _ (by simp only[Pg.kind,hj]) (by simp only[Pg.hgt];lia) ⟨by lia,trivial⟩ (b86 hj) I2 R2 K2)
   ·simp only[hm,if_false];subst h4;exact fin2
  ·simp only[h4,if_false];exact fin2
 have lk:=Kd.bd_le bd;have bo':=Kd.bd_mono (show 4<=100 by decide) bo;have one:∀k:Kd,k.bd 100->(Kd.both k .one).bd 100∧(Kd.both .one k).bd 100∧(Kd.way .one k).bd 100:=λk h=>by
  have:=Kd.bd_le h;have o:Kd.one.bd 100:=(show 1<=100 by decide);exact⟨⟨h,o,by simpa[Kd.cnt]using this⟩,⟨o,h,by simpa[Kd.cnt]using this⟩,⟨o,h,by simpa[Kd.cnt]using this⟩⟩
 have⟨o1,o2,o3⟩:=one k bd;walk_at "es";refine⟨by rw[B.count];rfl,G6 B.toPB0 (.both k ko) (m:=100) (by simp only[Kd.nest];lia) (λc d e=>by rcases e with e|e|e<;>cases e;exact⟨bd,bo'⟩) (by decide) ?_⟩;walk_at "ek"
 by_cases hb:(100:Int)<(Kd.both k ko).cnt
 ·simp only[hb,if_true];walk_at "es";exact fin .one trivial (show 1<=4 by decide) (by decide) o1 o2 o3
 ·simp only[hb,if_false];refine⟨by rw[B.count];rfl,G6 B.toPB0 (.way ko k) (m:=100) (by simp only[Kd.nest];lia) (λc d e=>by rcases e with e|e|e<;>cases e;exact⟨bo',bd⟩) (by decide) ?_⟩;walk_at "ek"
  by_cases hw:(100:Int)<(Kd.way ko k).cnt
  ·simp only[hw,if_true];walk_at "es";exact fin .one trivial (show 1<=4 by decide) (by decide) o1 o2 o3
  ·simp only[hw,if_false];simp only[Kd.cnt]at hb hw;exact fin ko go bo no ⟨bd,bo',by lia⟩ ⟨bo',bd,by rw[GR];lia⟩ ⟨bo',bd,by lia⟩
end
noncomputable def cy5:List (Str×D):=[("name",.int 2),("star",.int 1),("pair",.int 1),("first",.int 1),("second",.int 1),("left",.int 2),("right",.int 2),("case",.int 1),("way",.int 2),("give",.int 1),("let",.int 1),("never",.int 2)]
noncomputable def c02:List (Str×D):=[("case",.ktup [1,2]),("way",.ktup [0]),("let",.ktup [1])]
noncomputable def Pg.more:Pg->Nat->Nat
 |.case _ _ _,i=>if i=1∨i=2 then 1 else 0
 |.way _ _,i=>if i=0 then 1 else 0
 |.lets _ _,i=>if i=1 then 1 else 0
 |_,_=>0
theorem as1:∀(ds:List D)(i:Nat),(o6 i ds).length=ds.length
 |[],_=>rfl
 |_::ds,i=>by show(o6 (i+1) ds).length+1=ds.length+1;rw[as1 ds]
def b55{d:Nat}(h:(∀i,p.oc i=0)∧∀Δ,p.nl 6 Δ):Cn 0 d Γ p r (r-1):=⟨⟨λ_=>by lia,λ_ _=>rfl,by lia⟩,λi a _ _=>by rw[h.1 i];lia,h.2 Γ⟩
def cj7{d:Nat}{j:Nat}:Cn 0 d Γ (.name j) r (r-1):=⟨⟨λ_=>by lia,λ_ _=>rfl,by lia⟩,λi a _ _=>by simp only[Pg.oc,Pg.parts];split<;>lia,trivial⟩
def aj8{d:Nat}{r':Int}(h:¬r-1<=0)(c:Cn 1 d Γ p (r-1) r'):Cn 0 d Γ p r r':=
 ⟨⟨λ_=>c.1.1 (by lia),λ_ z=>by lia,by have:=c.1.2.2;lia⟩,λi a h1 h2=>by have:=c.2.1 i a h1 h2;lia,c.2.2⟩
section
variable (B:PB P) 
include B
def av6(deep:Nat)(hn:14<=n+2)(hm:0<deep->GSp 1 P G "_law_made" (n+1) 5 deep)(ha:0<deep->GSp 1 P G "_law_asked" (n+1) 4 deep):GSp 0 P G "_law_grown" (n+2) 5 deep:=by
 intro da ra k Γ st Q r hne I R g bd n5 hΓ q;have hra:ra∉[da]:=by simp;exact λz=>hne z.symm
 refine g9 B.grown rfl [AA (.ref da),AA k.d,AA (.tup (Γ.map Kd.d)),AA (.ref ra),AA (.int deep),AE,AE] rfl ?_;unfold P6;walk_at "es";rw[l5 (.inl R)];walk_at "ek";refine⟨ra,0,0,_,rfl,rfl,R,rfl,?_⟩;have I1:r8 (b0 st ra (.lst [.int (r-1)])) da:=let⟨l,h⟩:=I;⟨l,c8 h hne⟩;have R1:(b0 st ra (.lst [.int (r-1)])) ra=AA (.lst [.int (r-1)]):=c9;have K1:Kp [da,ra] st (b0 st ra (.lst [.int (r-1)])):=Kp.refl.put (by simp);show f8 _ _ _ _ (b0 st ra (.lst [.int (r-1)]));revert I1 R1 K1;generalize b0 st ra (.lst [.int (r-1)])=st1;intro I1 R1 K1;walk_at "es";refine⟨by rw[as1,AV];lia,?_⟩;refine N5 (λl acc env' st'=>st'=st1∧∃(pre suf:List Kd)(x y:Option D)(acc':List Nat),Γ=pre++suf∧l=o6 pre.length (suf.map Kd.d)∧env'=[AA k.d,x,y]∧acc=acc'.map (λi:Nat=>D.int (i:Int))∧acc'.length<=pre.length∧∀i∈acc',Γ[i]?=AA k) ?_ ?_ _ _ _ _ ⟨rfl,[],Γ,AE,AE,[],rfl,rfl,rfl,rfl,AU _,by simp⟩
 ·rintro acc env' st' ⟨rfl,pre,suf,x,y,acc',eΓ,el,rfl,rfl,al,hacc⟩;refine⟨trivial,λsp hsp=>?_⟩;have I2:=I1.new (u:=.lst (acc'.map (λi:Nat=>D.int (i:Int)))) hsp;have R2:=j6 (u:=.lst (acc'.map (λi:Nat=>D.int (i:Int)))) R1 hsp;have K2:=K1.new (o:=.lst (acc'.map (λi:Nat=>D.int (i:Int)))) hsp;have S2:b0 st' sp (.lst (acc'.map (λi:Nat=>D.int (i:Int)))) sp=AA (.lst (acc'.map (λi:Nat=>D.int (i:Int)))):=c9;have nds:sp∉[da]:=by simp;exact λz=>I1.ne hsp z.symm
  revert I2 R2 K2 S2;generalize b0 st' sp (.lst (acc'.map (λi:Nat=>D.int (i:Int))))=st2;intro I2 R2 K2 S2;walk_at "es";refine⟨by rw[B.next];rfl,B0 B.toPB0 (by decide) I2 λw st3 w0 w1 I3 K3=>?_⟩;have R3:=K3.at' R2 hra;have S3:=K3.at' S2 nds;have K3:=K2.trans (K3.w2 ra);have fin:f8 (Zg P G (n+1)) (P6.body.drop 4) (j8 Q) [AA (.ref da),AA k.d,AA (.tup (Γ.map Kd.d)),AA (.ref ra),AA (.int deep),AA (.ref sp),AA (.int w)] st3:=by
   simp only[P6,Ss.drop];have lst:f8 (Zg P G (n+1)) (.cons (.ret (.call "_law_least" (.cons (.v 1) (.cons (.v 2) .nil)))) .nil) ⟨f8 (Zg P G (n+1)) (P6.body.drop 5) (j8 Q),(j8 Q).rt,(j8 Q).bk,(j8 Q).ct⟩ [AA (.ref da),AA k.d,AA (.tup (Γ.map Kd.d)),AA (.ref ra),AA (.int deep),AA (.ref sp),AA (.int w)] st3:=by
    walk_at "es";exact⟨by rw[B.least];rfl,ak0 B k g bd (by lia) (by lia) (by lia) λp k1 h1 _ m1 o1=>c0 (q p _ (r-1) k1 (by lia) m1 (b55 o1) I3 R3 K3)⟩
   have hnone:(D.tup [.str "none"])=Kd.non.d:=rfl;have kn:k≠.non:=λz=>by subst z;exact g
   walk_at "es";rw[l5 (.inl R3)];walk_at "ek"
   by_cases h1:r-1<=0
   ·simp only[h1,if_true];exact lst
   simp only[h1,if_false]
   by_cases h2:(deep:Int)<=0
   ·simp only[h2,if_true];exact lst
   simp only[h2,if_false];rw[hnone,W6,E9];refine⟨t9 _,t9 _,by rw[z9,z9];exact BF (Io _ _) (by lia),?_⟩;walk_at "ek";simp only[kn,if_false];walk_at "es"
   by_cases h6:w<6
   ·simp only[h6,if_true];walk_at "es";exact⟨by rw[B.made];rfl,hm (by lia) hne I3 R3 g bd n5 hΓ λp st4 r4 k4 h4 m4 c4 I4 R4 K4=>c0 (q p _ r4 k4 h4 m4 (aj8 (by lia) c4) I4 R4 (K3.trans K4))⟩
   simp only[h6,if_false];refine⟨by rw[B.nest];rfl,cd1 B k (by lia) ?_⟩;walk_at "ek"
   by_cases h5:(4:Int)<k.nest
   ·simp only[h5,if_true];walk_at "es";exact⟨by rw[B.made];rfl,hm (by lia) hne I3 R3 g bd n5 hΓ λp st4 r4 k4 h4 m4 c4 I4 R4 K4=>c0 (q p _ r4 k4 h4 m4 (aj8 (by lia) c4) I4 R4 (K3.trans K4))⟩
   simp only[h5,if_false];walk_at "es";exact⟨by rw[B.asked];rfl,ha (by lia) hne I3 R3 g bd (by lia) hΓ λp st4 r4 k4 h4 m4 c4 I4 R4 K4=>c0 (q p _ r4 k4 h4 m4 (aj8 (by lia) c4) I4 R4 (K3.trans K4))⟩
  walk_at "es";rw[u0 (.inl S3)];walk_at "ek"
  by_cases hl:(0:Int)<((acc'.map (λi:Nat=>D.int (i:Int))).length:Nat)
  ·simp only[hl,if_true]
   by_cases h3:w<3
   ·simp only[h3,if_true];walk_at "es";rw[u0 (.inl S3)];refine⟨by rw[B.next];rfl,B0 B.toPB0 hl I3 λj st4 j0 j1 I4 K4=>?_⟩;have S4:=K4.at' S3 nds;have R4:=K4.at' R3 hra;have K4:=K3.trans (K4.w2 ra);rw[l5 (.inl S4)];obtain⟨j,rfl⟩:=HG j0;rw[AV]at j1;have hj:j<acc'.length:=by lia
    refine⟨.int (acc'[j]:Int),?_,c0 (q (.name acc'[j]) _ (r-1) (hacc _ (Gj hj)) (by simp only[Pg.hgt];lia) trivial cj7 I4 R4 K4)⟩;show atI _ ((j:Nat):Int)=_;rw[B1,Am,AL hj];rfl
   ·simp only[h3,if_false];exact fin
  ·simp only[hl,if_false];exact fin
 ·rintro d ds acc env' st' ih ⟨rfl,pre,suf,x,y,acc',eΓ,el,rfl,rfl,al,hacc⟩;refine⟨trivial,?_⟩;cases suf with
  |nil=>simp[o6]at el
  |cons c suf=>
   simp only[Aa,o6,Ah]at el;obtain⟨rfl,rfl⟩:=el;have hc:Γ[pre.length]?=AA c:=by rw[eΓ];simp
   walk_at "ek";rw[W6,E9];refine⟨t9 _,t9 _,by rw[z9,z9];exact BF (Dr _ _) (by lia),?_⟩;walk_at "ek"
   by_cases e:c=k
   ·simp only[e,if_true];refine ih _ _ _ ⟨rfl,pre++[c],suf,_,_,acc'++[pre.length],by rw[eΓ];simp,by simp,rfl,by simp,by simp;lia,λi hi=>?_⟩
    rcases Bc.mp hi with hi|hi
    ·exact hacc i hi
    ·simp only[Bi]at hi;subst hi;rw[hc,e]
   ·simp only[e,if_false];exact ih _ _ _ ⟨rfl,pre++[c],suf,_,_,acc',by rw[eΓ];simp,by simp,rfl,rfl,by simp;lia,hacc⟩
theorem aj5:∀(deep:Nat){n:Nat},2*deep+14<=n->GSp 0 P G "_law_grown" n 5 deep
 |0,n,hn=>by
  obtain⟨n,rfl⟩:∃m,n=m+2:=⟨n-2,by lia⟩;exact av6 B 0 (by lia) (λh=>absurd h (by decide)) (λh=>absurd h (by decide))
 |deep+1,n,hn=>by
  obtain⟨n,rfl⟩:∃m,n=m+2:=⟨n-2,by lia⟩;exact av6 B (deep+1) (by lia) (λ_=>cd7 B (by lia) (aj5 deep (by lia))) (λ_=>b93 B (by lia) (aj5 deep (by lia)))
end
def Kp.fresh{p:AI}{o:Ob}(h:Kp [a,p] (b0 st p o) st')(hp:st p=AE):Kp [a] st st':=λb u n e=>by
 have nb:b≠p:=j7 e hp;exact h b u (by simp at n ⊢;exact⟨n,nb⟩) (by rw[B9 nb];exact e)
def Pg.parts_kids(p:Pg):p.parts=1+(p.kids.map Pg.parts).sum:=by
 cases p<;>simp only[Pg.parts,Pg.kids,Aa,Cq,Di,IJ]<;>lia
def Pg.hgt_kids(p:Pg):∀c∈p.kids,c.hgt<p.hgt:=by
 cases p<;>simp only[Pg.hgt,Pg.kids,AM,Ae,or_false,false_imp_iff,implies_true,forall_eq_or_imp,forall_eq]<;>lia
def Pg.kn_kids(p:Pg)(h:p.kn m):∀c∈p.kids,c.kn m:=by
 cases p<;>simp only[Pg.kn,Pg.kids,AM,Ae,or_false,false_imp_iff,implies_true,forall_eq_or_imp,forall_eq]at h ⊢<;>first|exact h|exact h.2
section
variable (B:PB P) 
include B
def ai0(p:Pg)(q:Q (.tup (p.kids.map Pg.d)) st):sem P G (n+1) "_law_inner" [p.d] st Q:=by
 refine g9 B.inner rfl [AA p.d,AE] rfl ?_;unfold ag7;cases p<;>simp only[Pg.d]
 case name=>
  walk_at "es";walk_at "es";walk_at "es";exact c0 q
 all_goals
  walk_at "es";walk_at "es";walk_at "es";simp only[N4,P8,D5,DN,true_and,Ef,List.any_nil,G7,t5,String.reduceEq,decide_true,decide_false,Bool.or_true,JJ,JW,FC,D7,if_true,BO,if_false];exact⟨by decide,by decide,c0 q⟩
def b80:∀(h:Nat)(p:Pg){n:Nat}{st:Sto}{Q:DK},p.hgt<=h->h+2<=n->(∀st',Kp [] st st'->Q (.int p.parts) st')->sem P G n "_law_parts" [p.d] st Q:=by
 intro h
 induction h with
 |zero=>intro p n st Q hp;cases p<;>simp only[Pg.hgt]at hp<;>lia
 |succ h ih=>
  intro p n st Q hp hn q;obtain⟨n,rfl⟩:∃m,n=m+2:=⟨n-2,by lia⟩;refine g9 B.parts rfl [AA p.d] rfl ?_;unfold ag9;walk_at "es";refine⟨by rw[B.inner];rfl,ai0 B p ?_⟩;walk_at "ek";refine⟨by rw[AV];cases p<;>simp only[Pg.kids,AW,BQ]<;>decide,?_⟩;refine N5 (λl acc env' st'=>Kp [] st st'∧∃(pre suf:List Pg)(x:Option D),p.kids=pre++suf∧l=suf.map Pg.d∧env'=[x]∧acc=(pre.map λc=>D.int (c.parts:Nat))) ?_ ?_ _ _ _ _ ⟨Kp.refl,[],p.kids,AE,rfl,rfl,rfl,rfl⟩
  ·rintro acc env' st' ⟨K,pre,suf,x,ek,el,rfl,rfl⟩;refine⟨trivial,λa ha=>?_⟩;have es:suf=[]:=by simpa using el.symm
   subst es;have e:(pre.map λc:Pg=>D.int (c.parts:Nat))=(pre.map λc:Pg=>((c.parts:Nat):Int)).map D.int:=by rw[CL];rfl
   refine⟨_,.inl (by rw[<-e];exact c9),?_⟩;walk_at "ek";have e2:(1:Int)+(pre.map λc:Pg=>((c.parts:Nat):Int)).sum=(p.parts:Nat):=by
    rw[Pg.parts_kids p,ek,BP];generalize pre=l
    induction l with
    |nil=>rfl
    |cons c l ih=>simp only[Aa,Di]at ih ⊢;lia
   rw[e2];exact c0 (q _ (K.new ha))
  ·rintro d ds acc env' st' ihc ⟨K,pre,suf,x,ek,el,rfl,rfl⟩;refine⟨trivial,?_⟩;cases suf with
   |nil=>simp at el
   |cons c suf=>
    simp only[Aa,Ah]at el;obtain⟨rfl,rfl⟩:=el;walk_at "ek";have hc:=Pg.hgt_kids p c (by rw[ek];simp);refine⟨by rw[B.parts];rfl,ih c (by lia) (by lia) λst2 K2=>ihc _ _ _ ⟨K.trans K2,pre++[c],suf,_,by rw[ek];simp,rfl,rfl,by simp⟩⟩
def bx1{k:Kd}{many:Int}(hm:many<=33)(hn:40<=n)(I:r8 st da)(g:k.good)(bd:k.bd 100)(n5:k.nest<=5)(hΓ:Γ.length<=800)(q:∀(p:Pg)st',p.kind Γ=AA k->p.hgt<=15->p.parts<=64->p.kn 6->(k.nest<=4->p.parts<=60∧∀i a,Γ[i]?=AA a->a≠.non->p.parts+59*p.oc i<=2000)->p.nl 6 Γ->r8 st' da->Kp [da] st st'->Q p.d st'):sem P G n "_law_program" [.ref da,k.d,.tup (Γ.map Kd.d),.int many] st Q:=by
 obtain⟨n,rfl⟩:∃m,n=m+1:=⟨n-1,by lia⟩;refine g9 B.program rfl [AA (.ref da),AA k.d,AA (.tup (Γ.map Kd.d)),AA (.int many),AE] rfl ?_;unfold af8;walk_at "es";refine⟨by rw[B.grown];rfl,λra hra=>?_⟩;refine aj5 B 8 (by lia) (I.ne hra) (I.new hra) c9 g bd n5 (by lia) λp st1 r1 k1 h1 m1 c1 I1 R1 K1=>?_;have K1:=K1.fresh hra;walk_at "es";refine⟨by rw[B.parts];rfl,b80 B 15 p (by lia) (by lia) λst2 K2=>?_⟩;have I2:=I1.keep K2 (by simp);have K2:=K1.trans (K2.more (by simp));walk_at "ek"
 by_cases hp:(60:Int)<(p.parts:Nat)
 ·simp only[hp,if_true];walk_at "es";refine⟨by rw[B.least];rfl,ak0 B k g bd (by lia) (by lia) (by lia) λp3 k3 h3 p3' m3 o3=>c0 (q p3 _ k3 (by lia) ?_ m3 (λhk=>?_) (o3.2 Γ) I2 K2)⟩
  ·have:2^(k.nest+1)<=2^6:=BV (by decide) (by lia);lia
  ·have:2^(k.nest+1)<=2^5:=BV (by decide) (by lia);exact⟨by lia,λi a _ _=>by rw[o3.1 i];lia⟩
 ·simp only[hp,if_false];walk_at "es";exact c0 (q p _ k1 h1 (by lia) m1 (λ_=>⟨by lia,λi a h1 h2=>by
   have:=c1.2.1 i a h1 h2;have:=c1.1.1;have:=c1.1.2.1 rfl;have:=c1.1.2.2;lia⟩) c1.2.2 I2 K2)
omit B in
noncomputable def C4:List Kd->Nat
 |[]=>1
 |k::r=>max 1 k.cnt*C4 r
omit B in
theorem av9:∀(l:List Kd)(k:Kd),C4 (l++[k])=C4 l*max 1 k.cnt
 |[],k=>by simp[C4]
 |c::l,k=>by simp only[CB,C4,av9 l k,Nat.mul_assoc]
def b57{most lines:Nat}(hn:20<=n)(hm:most<=100)(hl:1<=lines)(hl2:lines<=1000)(I:r8 st da)(q:∀(Γ:List Kd)st',Γ.length<=most->(∀k∈Γ,(k.good∨k=.non)∧k.bd 16∧k.nest<=2)->C4 Γ<=lines->r8 st' da->Kp [da] st st'->Q (.tup (Γ.map Kd.d)) st'):sem P G n "_law_names" [.ref da,.int most,.int lines] st Q:=by
 obtain⟨n,rfl⟩:∃m,n=m+2:=⟨n-2,by lia⟩;refine g9 B.names rfl [AA (.ref da),AA (.int most),AA (.int lines),AE,AE,AE,AE] rfl ?_;unfold E7;walk_at "es";walk_at "es";walk_at "es";refine⟨by rw[B.next];rfl,B0 B.toPB0 (by lia) I λr st1 r0 r1 I1 K1=>⟨r,rfl,by lia,?_⟩⟩;refine A9 (λl env st'=>r8 st' da∧Kp [da] st st'∧∃(Γ:List Kd)(x y:Option D),env=[AA (.ref da),AA (.int most),AA (.int lines),AA (.tup (Γ.map Kd.d)),AA (.int (C4 Γ:Nat)),x,y]∧Γ.length+l.length<=most∧(∀k∈Γ,(k.good∨k=.non)∧k.bd 16∧k.nest<=2)∧C4 Γ<=lines) ?_ ?_ _ _ _ ⟨I1,K1,[],AE,AE,rfl,by simp[t0];lia,by simp,hl⟩
 ·rintro env st' ⟨I2,K2,Γ,x,y,rfl,h1,h2,h3⟩;refine⟨trivial,?_⟩;walk_at "es";exact c0 (q Γ _ (by simpa using h1) h2 h3 I2 K2)
 ·rintro d ds env st' ih ⟨I2,K2,Γ,x,y,rfl,h1,h2,h3⟩;refine⟨trivial,?_⟩;walk_at "ek";walk_at "es";refine⟨by rw[B.kind];rfl,aa4 B.toPB0 (most:=16) (by decide) (by decide) 2 (by lia) I2 λk st3 g3 b3 n3 I3 K3=>?_⟩;have K3:=K2.trans K3;walk_at "es";refine⟨by rw[B.next];rfl,B0 B.toPB0 (by decide) I3 λr4 st4 _ _ I4 K4=>?_⟩;have K4:=K3.trans K4;have fin:∀k:Kd,(k.good∨k=.non)->k.bd 16->k.nest<=2->f8 (Zg P G (n+1)) (match E7.body.drop 2 with|.cons (.for _ _ b) _=>b.drop 2|_=>.nil) ⟨p7 (λ_=>True) (.n 5) (f8 (Zg P G (n+1)) (match E7.body.drop 2 with|.cons (.for _ _ b) _=>b|_=>.nil)) ⟨f8 (Zg P G (n+1)) (E7.body.drop 3) (j8 Q),(j8 Q).rt,(j8 Q).bk,(j8 Q).ct⟩ ds,(j8 Q).rt,f8 (Zg P G (n+1)) (E7.body.drop 3) (j8 Q),p7 (λ_=>True) (.n 5) (f8 (Zg P G (n+1)) (match E7.body.drop 2 with|.cons (.for _ _ b) _=>b|_=>.nil)) ⟨f8 (Zg P G (n+1)) (E7.body.drop 3) (j8 Q),(j8 Q).rt,(j8 Q).bk,(j8 Q).ct⟩ ds⟩ [AA (.ref da),AA (.int most),AA (.int lines),AA (.tup (Γ.map Kd.d)),AA (.int (C4 Γ:Nat)),AA d,AA k.d] st4:=by
   intro k hk bk nk;have lk:=Kd.bd_le bk;simp only[E7,Ss.drop];walk_at "es";have ex:(if(k.cnt:Int)>1 then(k.cnt:Int)else 1)=((max 1 k.cnt:Nat):Int):=by split<;>lia
   have em:((C4 Γ:Nat):Int)*((max 1 k.cnt:Nat):Int)=((C4 (Γ++[k]):Nat):Int):=by rw[av9];exact(Ix _ _).symm
   refine⟨by rw[B.count];rfl,G6 B.toPB0 k (m:=16) (by lia) (W7 bk) (by decide) ?_⟩;walk_at "ek";rw[ex,em];refine⟨Q9 ⟨by lia,by lia⟩,?_⟩
   by_cases hle:((C4 (Γ++[k]):Nat):Int)<=(lines:Nat)
   ·simp only[hle,if_true];walk_at "es";refine⟨by rw[B.count];rfl,G6 B.toPB0 k (m:=16) (by lia) (W7 bk) (by decide) ?_⟩;walk_at "ek";rw[ex,em];refine⟨Q9 ⟨by lia,by lia⟩,?_⟩;simp only[AW]at h1;walk_at "es";refine⟨E1 (by simp only[AV];lia),ih _ _ ⟨I4,K4,Γ++[k],_,_,by rw[Ag];rfl,by simp;lia,λc hc=>?_,by lia⟩⟩
    rcases Bc.mp hc with hc|hc
    ·exact h2 c hc
    ·simp only[Bi]at hc;subst hc;exact⟨hk,bk,nk⟩
   ·simp only[hle,if_false];simp only[AW]at h1;exact ih _ _ ⟨I4,K4,Γ,_,_,rfl,by lia,h2,h3⟩
  walk_at "ek"
  by_cases e1:r4=1
  ·simp only[e1,if_true];walk_at "es";exact fin .non (.inr rfl) trivial (BU _)
  ·simp only[e1,if_false];exact fin k (.inl g3) b3 n3
end
structure PIn(P:i8)(G:Gs):Prop where
 inner:P "inner"=AA al8
 more:P "names_more"=AA ag3
 tab:G.tab "INNER_FROM"=cy5
 tab2:G.tab "UNDER_ONE_MORE"=c02
structure PNm(P:i8)(G:Gs):Prop extends PM P G,PIn P G where
 winner:P "with_inner"=AA d_with_inner
 lift:P "lifted"=AA d_lifted
 put:P "put_in"=AA d_put_in
 copy:P "copy_under"=AA d_copy_under
 wparts:P "with_parts"=AA d_with_parts
 under:P "inner_under"=AA d_inner_under
section
variable (J:PIn P G) 
include J
def b26(p:Pg)(q:∀a,st a=AE->Q (.ref a) (b0 st a (.lst (p.kids.map Pg.d)))):sem P G (n+1) "inner" [p.d] st Q:=by
 refine g9 J.inner rfl [AA p.d] rfl ?_;unfold al8;cases p<;>simp only[Pg.d]
 all_goals
  walk_at "es";refine⟨by show G.tab "INNER_FROM"≠[];rw[J.tab];exact λz=>(by cases z),?_⟩;simp only[J.tab];refine⟨_,rfl,_,rfl,by decide,λa ha=>c0 (q a ha)⟩
def a61(p:Pg)(i:Nat)(q:Q (.int (p.more i:Nat)) st):sem P G (n+1) "names_more" [p.d,.int i] st Q:=by
 refine g9 J.more rfl [AA p.d,AA (.int i)] rfl ?_;unfold ag3;cases p<;>simp only[Pg.d]
 all_goals
  walk_at "es";refine⟨by show G.tab "UNDER_ONE_MORE"≠[];rw[J.tab2];exact λz=>(by cases z),?_⟩;simp only[J.tab2];refine⟨_,rfl,?_⟩
 case case=>
  show o0 .In (.int i) (.ktup [1,2]) _ _;rw[aq8];walk_at "ek"
  by_cases h:i=1∨i=2
  ·rw[if_pos (by simp;lia)];simp only[Pg.more,if_pos h]at q;exact c0 q
  ·rw[if_neg (by simp;lia)];simp only[Pg.more,if_neg h]at q;exact c0 q
 case way=>
  show o0 .In (.int i) (.ktup [0]) _ _;rw[aq8];walk_at "ek"
  by_cases h:i=0
  ·rw[if_pos (by simp;lia)];simp only[Pg.more,if_pos h]at q;exact c0 q
  ·rw[if_neg (by simp;lia)];simp only[Pg.more,if_neg h]at q;exact c0 q
 case lets=>
  show o0 .In (.int i) (.ktup [1]) _ _;rw[aq8];walk_at "ek"
  by_cases h:i=1
  ·rw[if_pos (by simp;lia)];simp only[Pg.more,if_pos h]at q;exact c0 q
  ·rw[if_neg (by simp;lia)];simp only[Pg.more,if_neg h]at q;exact c0 q
 all_goals
  show o0 .In (.int i) (.tup []) _ _;rw[ap9];refine⟨rfl,rfl,BU _,?_⟩;walk_at "ek";exact c0 q
end
structure PKd(P:i8)(G:Gs):Prop extends PSh P G where
 lkd:P (c7 "Shelf" "laid_kind")=AA U3
 blt:P (c7 "Shelf" "built")=AA ag1
 ptb:P (c7 "Shelf" "put_by")=AA ae9
 tku:P (c7 "Shelf" "taken_up")=AA ad7
 dfl:A7 G.cls (c7 "Shelf" "laid_kind")=AA 3
structure ShD(sh dn sa pa wa:AI):Prop where
 nd:[sh,dn,sa,pa].Nodup
 wd:wa∉[dn,sa,pa]
 ws:wa≠sh
noncomputable abbrev shL(sh dn sa pa wa:AI):List AI:=[sh,dn,sa,pa,wa]
def O7{S:List It3}{t:D}(w:Wf S')(h:Has S t)(hp:S <+: S'):nb S' t=nb S t:=by
 obtain⟨e,h1,h2⟩:=Q8 h;obtain⟨l,rfl⟩:=hp;exact ab9 w (by rw[Ad (AR.mp h1).1];exact h1) h2
def cj4:dsz (.tup [.str w])=1:=rfl
def cm8{a b:Kd}:dsz (.tup [.str w,a.d,b.d])=1+(dsz a.d+dsz b.d):=by
 obtain⟨l,e⟩:=W2 a;obtain⟨l',e'⟩:=W2 b;rw[V1,e,e'];show 1+(dsz (.tup l)+(dsz (.tup l')+0))=_;lia
section
variable (T:PKd P G) {S:List It3} {wo:Ob}
include T
def al1{inn:List D}(A:ShA sh dn sa pa wa S st)(D0:ShD sh dn sa pa wa)(hw:st wa=AA wo)(hi:∀d∈inn,Has S d)(hl:inn.length<=1000)(hS:S.length<900000)
  (q:∀S' st',Has S' (.tup (.str w::inn))->S <+: S'->S'.length<=S.length+1->ShA sh dn sa pa wa S' st'->st' wa=AA wo->Kp (shL sh dn sa pa wa) st st'->Q (.int (nb S' (.tup (.str w::inn)):Nat)) st'):sem P G (n+1) (c7 "Shelf" "numbered") [.ref sh,.tup [.str w],y4 (inn.map (nb S))] st Q:=by
 refine as6 T.toPSh A D0.nd (fr:=[.str w]) (inn:=inn) (ns:=inn.map (nb S)) X2 (by simp) (λj m hm=>?_) (by simp) (by simpa using hl) (by lia) λm S' st' A' hp hl' hm K=>?_
 ·rw[Am]at hm;cases e:inn[j]? with
  |none=>rw[e]at hm;cases hm
  |some d=>
   rw[e]at hm;cases hm;obtain⟨e',h1,h2⟩:=Q8 (hi d (BE e));exact⟨e',h1,by rw[h2]⟩
 ·have hn:=ab9 A'.wf hm (t:=.tup (.str w::inn)) rfl;rw[<-hn];exact q S' st' ⟨m,_,hm,rfl⟩ hp hl' A' (K.at' hw D0.wd) (K.more (by simp))
def U5{a b:Kd}(A:ShA sh dn sa pa wa S st)(D0:ShD sh dn sa pa wa)(hw:st wa=AA wo)(ha:Has S a.d)(hb:Has S b.d)(hS:S.length<900000)
  (q:∀S' st',Has S' (.tup [.str w,a.d,b.d])->S <+: S'->S'.length<=S.length+1->ShA sh dn sa pa wa S' st'->st' wa=AA wo->Kp (shL sh dn sa pa wa) st st'->Q (.int (nb S' (.tup [.str w,a.d,b.d]):Nat)) st'):sem P G (n+2) (c7 "Shelf" "built") [.ref sh,.str w,.int (nb S a.d:Nat),.int (nb S b.d:Nat)] st Q:=by
 refine g9 T.blt rfl [AA (.ref sh),AA (.str w),AA (.int (nb S a.d:Nat)),AA (.int (nb S b.d:Nat))] rfl ?_;unfold ag1;walk_at "es";refine⟨sh,"Shelf",_,rfl,A.ins,rfl,by rw[T.numb];rfl,?_⟩;exact al1 T (inn:=[a.d,b.d]) A D0 hw (by simp[ha,hb]) (by simp) hS λS' st' h1 h2 h3 h4 h5 h6=>c0 (q S' st' h1 h2 h3 h4 h5 h6)
noncomputable def LdQ(sh dn sa pa wa:AI)(S:List It3)(wo:Ob)(st:Sto)(k:Kd)(Q:DK):Prop:=∀S' st',Has S' k.d->S <+: S'->S'.length<=S.length+dsz k.d->ShA sh dn sa pa wa S' st'->st' wa=AA wo->Kp (shL sh dn sa pa wa) st st'->Q (.int (nb S' k.d:Nat)) st'
def ca6:∀(k:Kd)(deep:Nat){n:Nat}{st:Sto}{Q:DK}{S:List It3},deep+8<=n->k.nest<=9->ShA sh dn sa pa wa S st->ShD sh dn sa pa wa->st wa=AA wo->S.length+dsz k.d<=900000->LdQ sh dn sa pa wa S wo st k Q->sem P G n (c7 "Shelf" "laid_kind") [.ref sh,k.d,.int deep] st Q:=by
 intro k;have one:∀(w:String)(k:Kd),k.d=.tup [.str w]->∀(deep:Nat){n:Nat}{st:Sto}{Q:DK}{S:List It3},deep+8<=n->ShA sh dn sa pa wa S st->ShD sh dn sa pa wa->st wa=AA wo->S.length+dsz k.d<=900000->LdQ sh dn sa pa wa S wo st k Q->sem P G n (c7 "Shelf" "laid_kind") [.ref sh,k.d,.int deep] st Q:=by
  intro w k ek deep n st Q S hn A D0 hw hS q;unfold LdQ at q;rw[ek]at hS q ⊢;rw[cj4]at hS q;obtain⟨n,rfl⟩:∃m,n=m+2:=⟨n-2,by lia⟩;refine g9 T.lkd rfl [AA (.ref sh),AA (.tup [.str w]),AA (.int deep)] rfl ?_;unfold U3;walk_at "es";rw[if_pos (by decide)];walk_at "es";refine⟨sh,"Shelf",_,rfl,A.ins,rfl,by rw[T.numb];rfl,?_⟩;exact al1 T (inn:=[]) A D0 hw (by simp) (by simp) (by lia) λS' st' h1 h2 h3 h4 h5 h6=>c0 (q S' st' h1 h2 h3 h4 h5 h6)
 have two:∀(w:String)(k a b:Kd),k.d=.tup [.str w,a.d,b.d]->1+max a.nest b.nest<=k.nest->k.nest<=9 ->
   (∀(deep:Nat){n:Nat}{st:Sto}{Q:DK}{S:List It3},deep+8<=n->a.nest<=9->ShA sh dn sa pa wa S st->ShD sh dn sa pa wa->st wa=AA wo->S.length+dsz a.d<=900000->LdQ sh dn sa pa wa S wo st a Q->sem P G n (c7 "Shelf" "laid_kind") [.ref sh,a.d,.int deep] st Q) ->
   (∀(deep:Nat){n:Nat}{st:Sto}{Q:DK}{S:List It3},deep+8<=n->b.nest<=9->ShA sh dn sa pa wa S st->ShD sh dn sa pa wa->st wa=AA wo->S.length+dsz b.d<=900000->LdQ sh dn sa pa wa S wo st b Q->sem P G n (c7 "Shelf" "laid_kind") [.ref sh,b.d,.int deep] st Q) ->
   ∀(deep:Nat){n:Nat}{st:Sto}{Q:DK}{S:List It3},deep+8<=n->ShA sh dn sa pa wa S st->ShD sh dn sa pa wa->st wa=AA wo->S.length+dsz k.d<=900000->LdQ sh dn sa pa wa S wo st k Q->sem P G n (c7 "Shelf" "laid_kind") [.ref sh,k.d,.int deep] st Q:=by
  intro w k a b ek hne hk9 iha ihb deep n st Q S hn A D0 hw hS q;have hz:=M0 k;have hz2:2^(k.nest+1)<=2^10:=BV (by decide) (by lia);have lk:=N8 k;unfold LdQ at q;rw[ek]at hS q hz lk ⊢;obtain⟨n,rfl⟩:∃m,n=m+3:=⟨n-3,by lia⟩;refine g9 T.lkd rfl [AA (.ref sh),AA (.tup [.str w,a.d,b.d]),AA (.int deep)] rfl ?_;unfold U3;walk_at "es";rw[if_neg (by decide)];walk_at "es"
  by_cases h0:(deep:Int)=0
  ·simp only[h0,if_true];walk_at "es";refine⟨sh,"Shelf",_,rfl,A.ins,rfl,by rw[T.laid];rfl,?_⟩;obtain⟨n,rfl⟩:∃m,n=m+1:=⟨n-1,by lia⟩;refine b74 T.toPSh (n:=n) (by lia) A D0.nd hw D0.wd lk (by lia) (by lia) λd S' st' v h1 h2 h3 h4 h5=>?_;obtain⟨v1,rfl⟩:=cy4 h3.wf v;exact c0 (q S' st' v1 h1 h2 h3 h4 h5)
  ·simp only[h0,if_false];obtain⟨deep,rfl⟩:∃m,deep=m+1:=⟨deep-1,by lia⟩;have ed:((deep+1:Nat):Int)-1=(deep:Nat):=by lia
   rw[cm8]at hS q;walk_at "es";refine⟨sh,"Shelf",_,rfl,A.ins,rfl,by rw[T.blt];rfl,sh,"Shelf",_,rfl,A.ins,rfl,by rw[T.lkd];rfl,?_⟩;rw[ed];refine iha deep (by lia) (by lia) A D0 hw (by lia) λS1 st1 a1 a2 a3 A1 a5 a6=>?_;walk_at "ek";refine⟨sh,"Shelf",_,rfl,A1.ins,rfl,by rw[T.lkd];rfl,?_⟩;refine ihb deep (by lia) (by lia) A1 D0 a5 (by lia) λS2 st2 b1 b2 b3 A2 b5 b6=>?_;walk_at "ek";rw[<-O7 A2.wf a1 b2];exact U5 T A2 D0 b5 (a1.mono b2) b1 (by lia) λS3 st3 c1 c2 c3 c4 c5 c6=>c0 (q S3 st3 c1 ((a2.trans b2).trans c2) (by lia) c4 c5 ((a6.trans b6).trans c6))
 induction k with
 |non=>exact λdeep{n st Q S}hn _=>one "none" .non rfl deep hn
 |one=>exact λdeep{n st Q S}hn _=>one "one" .one rfl deep hn
 |eith a b iha ihb=>exact λdeep{n st Q S}hn h9=>two "either" (.eith a b) a b rfl (AU _) h9 iha ihb deep hn
 |both a b iha ihb=>exact λdeep{n st Q S}hn h9=>two "both" (.both a b) a b rfl (AU _) h9 iha ihb deep hn
 |way a b iha ihb=>exact λdeep{n st Q S}hn h9=>two "way" (.way a b) a b rfl (AU _) h9 iha ihb deep hn
end
def R9{k:Kd}(h:k.nest<=6):dsz k.d<=127:=by
 have:=M0 k;have:2^(k.nest+1)<=2^7:=BV (by decide) (by lia);lia
noncomputable def z5(S:List It3)(w:Kd×Bool):D:=.tup [w.1.d,if w.2=AC then .int (nb S w.1.d:Nat)else .non]
structure KA(sh dn sa pa wa:AI)(S:List It3)(ws:List (Kd×Bool))(st:Sto):Prop where
 A:ShA sh dn sa pa wa S st
 D0:ShD sh dn sa pa wa
 W:st wa=AA (.lst (ws.map (z5 S)))
 H:∀w∈ws,w.2=AC->Has S w.1.d
 N:∀w∈ws,w.1.nest<=6
 L:ws.length<=2000
section
variable {S:List It3} 
def cj2(w':Wf S')(hp:S <+: S'){w:Kd×Bool}(h:w.2=AC->Has S w.1.d):z5 S' w=z5 S w:=by
 unfold z5
 by_cases hb:w.2=AC
 ·rw[if_pos hb,if_pos hb,O7 w' (h hb) hp]
 ·rw[if_neg hb,if_neg hb]
def KA.up(k:KA sh dn sa pa wa S ws st)(A':ShA sh dn sa pa wa S' st')(hp:S <+: S')(hw:st' wa=AA (.lst (ws.map (z5 S)))):KA sh dn sa pa wa S' ws st':=
 ⟨A',k.D0,by rw[hw];exact congrArg (λl=>AA (Ob.lst l)) (Hk λw hm=>(cj2 A'.wf hp (k.H w hm)).symm),λw hm hb=>(k.H w hm hb).mono hp,k.N,k.L⟩
theorem KA.keepL(k:KA sh dn sa pa wa S ws st)(K:Kp L st st')(h:∀x∈L,x∉shL sh dn sa pa wa):KA sh dn sa pa wa S ws st':=
 ⟨k.A.keepL K h,k.D0,K.at' k.W (λz=>h wa z (by simp)),k.H,k.N,k.L⟩
def KA.keep(k:KA sh dn sa pa wa S ws st)(K:Kp [] st st'):KA sh dn sa pa wa S ws st':=k.keepL K (by simp)
noncomputable def En(S:List It3)(ws:List (Kd×Bool))(e:Int)(k:Kd):Prop:=(e=(nb S k.d:Nat)∧Has S k.d)∨∃(j:Nat)(b:Bool),e=-((j:Int)+1)∧ws[j]?=AA (k,b)
noncomputable def WUp(ws ws':List (Kd×Bool)):Prop:=ws'.map (·.1)=ws.map (·.1)
def En.up{e:Int}{k:Kd}(h:En S ws e k)(w':Wf S')(hp:S <+: S')(hw:WUp ws ws'):En S' ws' e k:=by
 rcases h with⟨rfl,h⟩|⟨j,b,rfl,h⟩
 ·exact .inl ⟨by rw[O7 w' h hp],h.mono hp⟩
 ·have e1:(ws'.map (·.1))[j]?=AA k:=by rw[hw,Am,h];rfl
  rw[Am]at e1;cases e2:ws'[j]? with
  |none=>rw[e2]at e1;cases e1
  |some x=>
   rw[e2]at e1;cases e1;exact .inr ⟨j,x.2,rfl,e2⟩
structure KnOk(S:List It3)(ws:List (Kd×Bool))(Γ:List Kd)(kn:List Int):Prop where
 len:kn.length=Γ.length
 at':∀(m:Nat)k,Γ[m]?=AA k->∃e,kn.reverse[m]?=AA e∧En S ws e k
theorem KnOk.up{kn:List Int}(h:KnOk S ws Γ kn)(w':Wf S')(hp:S <+: S')(hw:WUp ws ws'):KnOk S' ws' Γ kn:=
 ⟨h.len,λm k hk=>let⟨e,h1,h2⟩:=h.at' m k hk;⟨e,h1,h2.up w' hp hw⟩⟩
def KnOk.cons{kn:List Int}{k:Kd}{e:Int}(h:KnOk S ws Γ kn)(he:En S ws e k):KnOk S ws (k::Γ) (kn++[e]):=
 ⟨by simp[h.len],λm c hc=>by
  rw[Hl];cases m with
  |zero=>cases hc;exact⟨e,rfl,he⟩
  |succ m=>exact h.at' m c hc⟩
theorem WUp.trans{w1 w2 w3:List (Kd×Bool)}(a:WUp w1 w2)(b:WUp w2 w3):WUp w1 w3:=Jc b a
end
section
variable (T:PKd P G) {S:List It3} 
include T
def R0{k:Kd}(hn:11<=n)(k9:k.nest<=9)(K:KA sh dn sa pa wa S ws st)(hS:S.length+dsz k.d<=900000)
  (q:∀S' st',Has S' k.d->S <+: S'->S'.length<=S.length+dsz k.d->KA sh dn sa pa wa S' ws st'->Kp (shL sh dn sa pa wa) st st'->Q (.int (nb S' k.d:Nat)) st'):sem P G n (c7 "Shelf" "laid_kind") [.ref sh,k.d,.int 3] st Q:=
 ca6 T k 3 (by lia) k9 K.A K.D0 K.W hS λS' st' h1 h2 h3 h4 h5 h6=>q S' st' h1 h2 h3 (K.up h4 h2 h5) h6
def ca3{k:Kd}(K:KA sh dn sa pa wa S ws st)(k9:k.nest<=6)(hl:ws.length<2000)(q:∀st',KA sh dn sa pa wa S (ws++[(k,AG)]) st'->Kp [wa] st st'->Q (.int (-((ws.length:Int)+1))) st'):sem P G (n+1) (c7 "Shelf" "put_by") [.ref sh,k.d] st Q:=by
 refine g9 T.ptb rfl [AA (.ref sh),AA k.d] rfl ?_;unfold ae9;have hw:(("waiting":Str))∈G.cls "Shelf":=by rw[T.cls];simp
 walk_at "es";refine⟨sh,"Shelf",_,.ref wa,rfl,K.A.ins,hw,rfl,?_⟩;rw[v4 (.inl K.W)];refine⟨trivial,?_⟩;rw[A4 K.W];refine⟨A0 (by simp only[AV];lia),?_⟩;have K1:Kp [wa] st (b0 st wa (.lst (ws.map (z5 S)++[.tup [k.d,.non]]))):=Kp.refl.put (by simp);have W1:b0 st wa (.lst (ws.map (z5 S)++[.tup [k.d,.non]])) wa=AA (.lst ((ws++[(k,AG)]).map (z5 S))):=by rw[c9,Ag];rfl
 have A1:ShA sh dn sa pa wa S (b0 st wa (.lst (ws.map (z5 S)++[.tup [k.d,.non]]))):=by
  have d:=K.D0;have w:=d.wd;simp only[AM,Ae,or_false,not_or]at w;exact⟨c8 K.A.ins (λz=>d.ws z.symm),c8 K.A.num (λz=>w.1 z.symm),c8 K.A.sto (λz=>w.2.1 z.symm),c8 K.A.par (λz=>w.2.2 z.symm),⟨_,c9⟩,K.A.wf,K.A.ml,K.A.fl⟩
 have KK:KA sh dn sa pa wa S (ws++[(k,AG)]) (b0 st wa (.lst (ws.map (z5 S)++[.tup [k.d,.non]]))):=by
  refine⟨A1,K.D0,W1,λw hm hb=>?_,λw hm=>?_,by simp;lia⟩
  ·rcases Bc.mp hm with hm|hm
   ·exact K.H w hm hb
   ·simp at hm;subst hm;cases hb
  ·rcases Bc.mp hm with hm|hm
   ·exact K.N w hm
   ·simp at hm;subst hm;exact k9
 walk_at "es";refine⟨sh,"Shelf",_,.ref wa,rfl,A1.ins,hw,rfl,?_⟩;rw[u0 (.inl W1)];walk_at "ek";have e:-(((ws++[(k,AG)]).map (z5 S)).length:Int)=-((ws.length:Int)+1):=by simp
 rw[e];exact c0 (q _ KK K1)
def b10{k:Kd}{e:Int}(hn:12<=n)(K:KA sh dn sa pa wa S ws st)(h:En S ws e k)(hS:S.length+128<=900000)
  (q:∀S' ws' st',Has S' k.d->S <+: S'->S'.length<=S.length+128->KA sh dn sa pa wa S' ws' st'->WUp ws ws'->Kp (shL sh dn sa pa wa) st st'->Q (.int (nb S' k.d:Nat)) st'):sem P G n (c7 "Shelf" "taken_up") [.ref sh,.int e] st Q:=by
 obtain⟨n,rfl⟩:∃m,n=m+1:=⟨n-1,by lia⟩;refine g9 T.tku rfl [AA (.ref sh),AA (.int e),AE] rfl ?_;unfold ad7;have hw:(("waiting":Str))∈G.cls "Shelf":=by rw[T.cls];simp
 walk_at "es"
 rcases h with⟨rfl,h⟩|⟨j,b,rfl,h⟩
 ·rw[if_pos (by lia)];walk_at "es";exact c0 (q S ws st h (CD _) (by lia) K rfl Kp.refl)
 rw[if_neg (by lia)];walk_at "es";refine⟨sh,"Shelf",_,.ref wa,rfl,K.A.ins,hw,rfl,?_⟩;have ej:(-1:Int) - -((j:Int)+1)=(j:Nat):=by lia
 rw[ej,l5 (.inl K.W)];refine⟨z5 S (k,b),by rw[B1,Am,h];rfl,?_⟩;have k9:=K.N _ (BE h);have hj:=(AR.mp h).1;cases b with
 |true=>
  have e1:z5 S (k,AC)=.tup [k.d,.int (nb S k.d:Nat)]:=rfl;have hh:=K.H _ (BE h) rfl;rw[e1];walk_at "es";refine .inr ⟨nofun,?_⟩;walk_at "ek";walk_at "es";exact c0 (q S ws st hh (CD _) (by lia) K rfl Kp.refl)
 |false=>
  have e1:z5 S (k,AG)=.tup [k.d,.non]:=rfl;rw[e1];walk_at "es";refine .inl ?_;walk_at "es";refine⟨sh,"Shelf",_,3,rfl,K.A.ins,rfl,by rw[T.lkd];rfl,T.dfl,?_⟩;have hz:dsz k.d<=127:=R9 (k:=k) k9;refine R0 T (by lia) (by show k.nest<=9;have:k.nest<=6:=k9;lia) K (by lia) λS' st' h1 h2 h3 K' K2=>?_;walk_at "ek";walk_at "es";refine⟨sh,"Shelf",_,.ref wa,rfl,K'.A.ins,hw,rfl,?_⟩;rw[ej];refine⟨wa,(j:Nat),j,_,rfl,rfl,K'.W,?_,?_⟩
  ·unfold ixN;rw[if_pos (by lia),if_pos (by simp;lia)];simp
  have wk:wa∉[dn,sa,pa]∧wa≠sh:=⟨K.D0.wd,K.D0.ws⟩;simp only[AM,Ae,or_false,not_or]at wk;have A3:∀o,ShA sh dn sa pa wa S' (b0 st' wa o):=λo=>⟨c8 K'.A.ins (λz=>wk.2 z.symm),c8 K'.A.num (λz=>wk.1.1 z.symm),c8 K'.A.sto (λz=>wk.1.2.1 z.symm),c8 K'.A.par (λz=>wk.1.2.2 z.symm),⟨_,c9⟩,K'.A.wf,K'.A.ml,K'.A.fl⟩;have el:(ws.map (z5 S')).set j (.tup [k.d,.int (nb S' k.d:Nat)])=(ws.set j (k,AC)).map (z5 S'):=by rw[Jd];rfl
  rw[el];walk_at "es";refine c0 (q S' (ws.set j (k,AC)) _ h1 h2 (by lia) ⟨A3 _,K.D0,c9,λw hm hb=>?_,λw hm=>?_,by simpa using K.L⟩ ?_ (K2.put (by simp)))
  ·rcases Gd hm with hm|rfl
   ·exact K'.H w hm hb
   ·exact h1
  ·rcases Gd hm with hm|rfl
   ·exact K.N w hm
   ·exact k9
  ·unfold WUp;rw[Jd];refine GT λi=>?_;rw[FW]
   split
   ·rename_i hi;subst hi;rw[Am,h,if_pos (by simpa using hj)];rfl
   ·rfl
end
noncomputable def Pg.kk(Γ:List Kd):Pg->List Kd->Option Kd
 |.name n,[]=>Γ[n]?
 |.star,[]=>AA .one
 |.pair _ _,[a,b]=>AA (.both a b)
 |.first _,[.both a _]=>AA a
 |.second _,[.both _ b]=>AA b
 |.left b _,[a]=>AA (.eith a b)
 |.right a _,[b]=>AA (.eith a b)
 |.case _ _ _,[.eith _ _,k,l]=>if k=l then AA k else AE
 |.way a _,[b]=>AA (.way a b)
 |.give _ _,[.way a b,c]=>if a=c then AA b else AE
 |.lets _ _,[_,k]=>AA k
 |.never k _,[.non]=>AA k
 |_,_=>AE
noncomputable def Pg.nw:Pg->List Kd->Nat->Option Kd
 |.way a _,_,_=>AA a
 |.lets _ _,ks,_=>ks.head?
 |.case _ _ _,.eith a b::_,i=>AA (if i=1 then a else b)
 |_,_,_=>AE
noncomputable def Cxt(p:Pg)(ks:List Kd)(i:Nat)(Γ Δ:List Kd):Prop:=(p.more i=0∧Δ=Γ)∨(p.more i=1∧∃a,p.nw ks i=AA a∧Δ=a::Γ)
def Pg.kind_inv{k:Kd}(h:p.kind Γ=AA k):∃ks:List Kd,ks.length=p.kids.length∧p.kk Γ ks=AA k∧∀(i:Nat)c,p.kids[i]?=AA c->∃a Δ,ks[i]?=AA a∧Cxt p (ks.take i) i Γ Δ∧c.kind Δ=AA a:=by
 cases p with
 |name n=>exact⟨[],rfl,h,λi c hc=>by simp[Pg.kids]at hc⟩
 |star=>exact⟨[],rfl,h,λi c hc=>by simp[Pg.kids]at hc⟩
 |pair t u=>
  simp only[Pg.kind]at h
  split at h
  ·rename_i a b h1 h2;refine⟨[a,b],rfl,h,λi c hc=>?_⟩
   match i,hc with
   |0,hc=>cases hc;exact⟨a,Γ,rfl,.inl ⟨rfl,rfl⟩,h1⟩
   |1,hc=>cases hc;exact⟨b,Γ,rfl,.inl ⟨rfl,rfl⟩,h2⟩
  ·cases h
 |first t=>
  simp only[Pg.kind]at h
  split at h
  ·rename_i a b h1;refine⟨[.both a b],rfl,h,λi c hc=>?_⟩
   match i,hc with
   |0,hc=>cases hc;exact⟨_,Γ,rfl,.inl ⟨rfl,rfl⟩,h1⟩
  ·cases h
 |second t=>
  simp only[Pg.kind]at h
  split at h
  ·rename_i a b h1;refine⟨[.both a b],rfl,h,λi c hc=>?_⟩
   match i,hc with
   |0,hc=>cases hc;exact⟨_,Γ,rfl,.inl ⟨rfl,rfl⟩,h1⟩
  ·cases h
 |left b t=>
  simp only[Pg.kind]at h
  split at h
  ·rename_i a h1;refine⟨[a],rfl,h,λi c hc=>?_⟩
   match i,hc with
   |0,hc=>cases hc;exact⟨_,Γ,rfl,.inl ⟨rfl,rfl⟩,h1⟩
  ·cases h
 |right b t=>
  simp only[Pg.kind]at h
  split at h
  ·rename_i a h1;refine⟨[a],rfl,h,λi c hc=>?_⟩
   match i,hc with
   |0,hc=>cases hc;exact⟨_,Γ,rfl,.inl ⟨rfl,rfl⟩,h1⟩
  ·cases h
 |way b t=>
  simp only[Pg.kind]at h
  split at h
  ·rename_i a h1;refine⟨[a],rfl,h,λi c hc=>?_⟩
   match i,hc with
   |0,hc=>cases hc;exact⟨_,b::Γ,rfl,.inr ⟨rfl,b,rfl,rfl⟩,h1⟩
  ·cases h
 |never b t=>
  simp only[Pg.kind]at h
  split at h
  ·rename_i h1;refine⟨[.non],rfl,h,λi c hc=>?_⟩
   match i,hc with
   |0,hc=>cases hc;exact⟨_,Γ,rfl,.inl ⟨rfl,rfl⟩,h1⟩
  ·cases h
 |give t u=>
  simp only[Pg.kind]at h
  split at h
  ·rename_i a b c h1 h2;refine⟨[.way a b,c],rfl,h,λi d hd=>?_⟩
   match i,hd with
   |0,hc=>cases hc;exact⟨_,Γ,rfl,.inl ⟨rfl,rfl⟩,h1⟩
   |1,hc=>cases hc;exact⟨_,Γ,rfl,.inl ⟨rfl,rfl⟩,h2⟩
  ·cases h
 |lets t u=>
  simp only[Pg.kind]at h
  split at h
  ·rename_i a h1;refine⟨[a,k],rfl,rfl,λi c hc=>?_⟩
   match i,hc with
   |0,hc=>cases hc;exact⟨_,Γ,rfl,.inl ⟨rfl,rfl⟩,h1⟩
   |1,hc=>cases hc;exact⟨_,a::Γ,rfl,.inr ⟨rfl,a,rfl,rfl⟩,h⟩
  ·cases h
 |case t u v=>
  simp only[Pg.kind]at h
  split at h
  ·rename_i a b h1
   split at h
   ·rename_i c d h2 h3;refine⟨[.eith a b,c,d],rfl,h,λi e he=>?_⟩
    match i,he with
    |0,hc=>cases hc;exact⟨_,Γ,rfl,.inl ⟨rfl,rfl⟩,h1⟩
    |1,hc=>cases hc;exact⟨_,a::Γ,rfl,.inr ⟨rfl,a,rfl,rfl⟩,h2⟩
    |2,hc=>cases hc;exact⟨_,b::Γ,rfl,.inr ⟨rfl,b,rfl,rfl⟩,h3⟩
   ·cases h
  ·cases h
noncomputable def cy3:List (Str×D):=[("name",.fn "kind_of_name"),("star",.fn "kind_of_star"),("pair",.fn "kind_of_pair"),("first",.fn "kind_of_first"),("second",.fn "kind_of_second"),("left",.fn "kind_of_left"),("right",.fn "kind_of_right"),("case",.fn "kind_of_case"),("way",.fn "kind_of_way"),("give",.fn "kind_of_give"),("let",.fn "kind_of_let"),("never",.fn "kind_of_never")]
structure PKo(P:i8)(G:Gs):Prop extends PKd P G,PIn P G where
 kbp:P "kind_by_parts"=AA ae5
 nnm:P "new_name"=AA ah7
 hvs:P "halves_of"=AA ah0
 k0:P "kind_of_name"=AA af2
 k1:P "kind_of_star"=AA af1
 k2:P "kind_of_pair"=AA af0
 k3:P "kind_of_first"=AA ae4
 k4:P "kind_of_second"=AA ad8
 k5:P "kind_of_left"=AA af5
 k6:P "kind_of_right"=AA ae3
 k7:P "kind_of_case"=AA af7
 k8:P "kind_of_way"=AA ag0
 k9:P "kind_of_give"=AA af4
 k10:P "kind_of_let"=AA af9
 k11:P "kind_of_never"=AA ae1
 tbw:G.tab "BY_WORD"=cy3
noncomputable def u1(S:List It3)(ks:List Kd):List D:=ks.map λk=>.int (nb S k.d:Nat)
section
variable (T:PKo P G) {S:List It3} 
include T
def Y4{k a b:Kd}(ek:k.d=.tup [.str w,a.d,b.d])(K:KA sh dn sa pa wa S ws st)(h:Has S k.d)(q:Has S a.d->Has S b.d->Q (.tup [.int (nb S a.d:Nat),.int (nb S b.d:Nat)]) st):sem P G (n+2) "halves_of" [.str w,.int (nb S k.d:Nat),.ref sh] st Q:=by
 refine g9 T.hvs rfl [AA (.str w),AA (.int (nb S k.d:Nat)),AA (.ref sh)] rfl ?_;unfold ah0;rw[ek]at h ⊢;have ht:∀d∈[a.d,b.d],∃l,d=.tup l:=λd hd=>by simp at hd;rcases hd with rfl|rfl<;>exact W2 _
 obtain⟨hh,_⟩:=bb3 K.A.wf (fr:=[.str w]) (inn:=[a.d,b.d]) h X2 ht;walk_at "es";refine⟨sh,"Shelf",_,rfl,K.A.ins,rfl,by rw[T.word];rfl,ba1 T.toPSh K.A h ?_⟩;rw[T3];walk_at "ek";walk_at "es";refine⟨sh,"Shelf",_,rfl,K.A.ins,rfl,by rw[T.wthn];rfl,b13 T.toPSh K.A (fr:=[.str w]) (inn:=[a.d,b.d]) h X2 ht ?_⟩;exact c0 (q (hh _ (by simp)) (hh _ (by simp)))
end
noncomputable def Pg.told(m:Nat):Pg->Prop
 |.left b _=>b.nest<=m
 |.right b _=>b.nest<=m
 |.way b _=>b.nest<=m
 |.never b _=>b.nest<=m
 |_=>True
def Pg.told_kn(h:p.kn m):p.told m:=by cases p<;>first|trivial|exact h.1
noncomputable def StQ(sh dn sa pa wa:AI)(S:List It3)(ws:List (Kd×Bool))(st:Sto)(k:Kd)(Q:DK):Prop:=∀S' ws' st',Has S' k.d->S <+: S'->S'.length<=S.length+128->KA sh dn sa pa wa S' ws' st'->WUp ws ws'->Kp (shL sh dn sa pa wa) st st'->Q (.int (nb S' k.d:Nat)) st'
section
variable (T:PKo P G) {S:List It3} 
include T
def b06{a:Kd}(hn:14<=n)(K:KA sh dn sa pa wa S ws st)(ht:p.told 6)(hm:p.more i=1)(hk:p.nw ks i=AA a)(hc:st ca=AA (.lst (u1 S ks)))(hh:∀k∈ks,Has S k.d)(hS:S.length+128<=900000)
  (q:StQ sh dn sa pa wa S ws st a Q):sem P G n "new_name" [p.d,.ref ca,.int i,.ref sh] st Q:=by
 obtain⟨n,rfl⟩:∃m,n=m+3:=⟨n-3,by lia⟩;refine g9 T.nnm rfl [AA p.d,AA (.ref ca),AA (.int i),AA (.ref sh)] rfl ?_;unfold ah7;cases p<;>first|(cases hk;done)|skip
 case case t u v=>
  cases ks with
  |nil=>cases hk
  |cons k0 ks=>
   cases k0<;>first|(cases hk;done)|skip
   rename_i x y;simp only[Pg.d];walk_at "es";walk_at "es";walk_at "es";refine⟨by rw[T.hvs];rfl,?_⟩;rw[l5 (.inl hc)];refine⟨.int (nb S (Kd.eith x y).d:Nat),by rw[ac9];rfl,?_⟩;refine Y4 T (w:="either") (k:=.eith x y) rfl K (hh _ (by simp)) λh1 h2=>?_;walk_at "ek";simp only[Pg.more]at hm;have hi:i=1∨i=2:=by
    split at hm
    ·assumption
    ·cases hm
   rcases hi with rfl|rfl
   ·cases hk;exact⟨_,rfl,c0 (q S ws st h1 (CD _) (by lia) K rfl Kp.refl)⟩
   ·cases hk;exact⟨_,rfl,c0 (q S ws st h2 (CD _) (by lia) K rfl Kp.refl)⟩
 case way b t=>
  cases hk;simp only[Pg.d];walk_at "es";walk_at "es";refine⟨sh,"Shelf",_,3,rfl,K.A.ins,rfl,by rw[T.lkd];rfl,T.dfl,?_⟩;have hz:=R9 ht;have ht':a.nest<=6:=ht;exact R0 T.toPKd (by lia) (by lia) K (by lia) λS' st' h1 h2 h3 h4 h5=>c0 (q S' ws st' h1 h2 (by lia) h4 rfl h5)
 case lets t u=>
  cases ks with
  |nil=>cases hk
  |cons k0 ks=>
   cases hk;simp only[Pg.d];walk_at "es";walk_at "es";walk_at "es";rw[l5 (.inl hc)];exact⟨.int (nb S a.d:Nat),by rw[ac9];rfl,c0 (q S ws st (hh _ (by simp)) (CD _) (by lia) K rfl Kp.refl)⟩
def co6{k:Kd}{kn:List Int}(hn:16<=n)(K:KA sh dn sa pa wa S ws st)(ht:p.told 6)(hk:p.kk Γ ks=AA k)(hc:st ca=AA (.lst (u1 S ks)))(hh:∀k∈ks,Has S k.d)(hka:st ka=AA (.lst (kn.map D.int)))(hkn:KnOk S ws Γ kn)(hca:ca∉shL sh dn sa pa wa)(hS:S.length+128<=900000)
  (q:StQ sh dn sa pa wa S ws st k Q):sem P G n "kind_by_parts" [p.d,.ref ca,.ref ka,.ref sh] st Q:=by
 obtain⟨n,rfl⟩:∃m,n=m+5:=⟨n-5,by lia⟩;have tb:(Zg P G (n+4)).G "BY_WORD"≠[]:=by show G.tab "BY_WORD"≠[];rw[T.tbw];exact λz=>by cases z
 have here:∀{k:Kd},StQ sh dn sa pa wa S ws st k Q->Has S k.d->Q (.int (nb S k.d:Nat)) st:=λq h=>q S ws st h (CD _) (by lia) K rfl Kp.refl;refine g9 T.kbp rfl [AA p.d,AA (.ref ca),AA (.ref ka),AA (.ref sh)] rfl ?_;unfold ae5;cases p<;>simp only[Pg.d]
 all_goals
  walk_at "es";refine⟨tb,?_⟩;simp only[T.tbw];refine⟨_,rfl,?_⟩
 case name m=>
  cases ks with
  |cons _ _=>cases hk
  |nil=>
   refine⟨_,rfl,by rw[T.k0];rfl,?_⟩;refine g9 T.k0 rfl [AA (.tup [.str "name",.int m]),AA (.ref ca),AA (.ref ka),AA (.ref sh),AE] rfl ?_;unfold af2;have hk:Γ[m]?=AA k:=hk;have hm:=(AR.mp hk).1;obtain⟨e,he,hen⟩:=hkn.at' m k hk;have hl:=hkn.len;walk_at "es";walk_at "es";rw[u0 (.inl hka)];walk_at "ek";rw[if_neg (by lia),if_neg (by simp only[AV];lia)];walk_at "es";refine⟨sh,"Shelf",_,rfl,K.A.ins,rfl,by rw[T.tku];rfl,?_⟩;rw[u0 (.inl hka)];walk_at "ek";rw[l5 (.inl hka)];have ei:(((kn.map D.int).length:Nat):Int)-1-(m:Int)=((kn.length-1-m:Nat):Int):=by rw[AV];lia
   rw[ei];refine⟨.int e,by rw[B1,Am];rw[EW (by lia)]at he;rw[he];rfl,?_⟩;exact b10 T.toPKd (by lia) K hen (by lia) λS' ws' st' h1 h2 h3 h4 h5 h6=>c0 (c0 (q S' ws' st' h1 h2 (by lia) h4 h5 h6))
 case star=>
  cases ks with
  |cons _ _=>cases hk
  |nil=>
   cases hk;refine⟨_,rfl,by rw[T.k1];rfl,?_⟩;refine g9 T.k1 rfl [AA (.tup [.str "star"]),AA (.ref ca),AA (.ref ka),AA (.ref sh)] rfl ?_;unfold af1;walk_at "es";refine⟨sh,"Shelf",_,rfl,K.A.ins,rfl,by rw[T.numb];rfl,?_⟩;exact al1 T.toPKd (w:="one") (inn:=[]) K.A K.D0 K.W (by simp) (by simp) (by lia) λS' st' h1 h2 h3 h4 h5 h6=>c0 (c0 (q S' ws st' h1 h2 (by lia) (K.up h4 h2 h5) rfl h6))
 case pair t u=>
  match ks,hk with
  |[a,b],hk=>
   cases hk;refine⟨_,rfl,by rw[T.k2];rfl,?_⟩;refine g9 T.k2 rfl [AA (.tup [.str "pair",t.d,u.d]),AA (.ref ca),AA (.ref ka),AA (.ref sh)] rfl ?_;unfold af0;walk_at "es";refine⟨sh,"Shelf",_,rfl,K.A.ins,rfl,by rw[T.blt];rfl,?_⟩;rw[l5 (.inl hc)];refine⟨_,rfl,?_⟩;rw[l5 (.inl hc)];refine⟨_,rfl,?_⟩;exact U5 T.toPKd (w:="both") K.A K.D0 K.W (hh _ (by simp)) (hh _ (by simp)) (by lia) λS' st' h1 h2 h3 h4 h5 h6=>c0 (c0 (q S' ws st' h1 h2 (by lia) (K.up h4 h2 h5) rfl h6))
 case first t=>
  match ks,hk with
  |[.both a b],hk=>
   cases hk;refine⟨_,rfl,by rw[T.k3];rfl,?_⟩;refine g9 T.k3 rfl [AA (.tup [.str "first",t.d]),AA (.ref ca),AA (.ref ka),AA (.ref sh)] rfl ?_;unfold ae4;walk_at "es";refine⟨by rw[T.hvs];rfl,?_⟩;rw[l5 (.inl hc)];refine⟨_,rfl,Y4 T (w:="both") (k:=.both k b) rfl K (hh _ (by simp)) λh1 h2=>?_⟩;walk_at "ek";exact c0 (c0 (here q h1))
 case second t=>
  match ks,hk with
  |[.both a b],hk=>
   cases hk;refine⟨_,rfl,by rw[T.k4];rfl,?_⟩;refine g9 T.k4 rfl [AA (.tup [.str "second",t.d]),AA (.ref ca),AA (.ref ka),AA (.ref sh)] rfl ?_;unfold ad8;walk_at "es";refine⟨by rw[T.hvs];rfl,?_⟩;rw[l5 (.inl hc)];refine⟨_,rfl,Y4 T (w:="both") (k:=.both a k) rfl K (hh _ (by simp)) λh1 h2=>?_⟩;walk_at "ek";exact c0 (c0 (here q h2))
 case case t u v=>
  match ks,hk with
  |[.eith a b,c,d],hk=>
   have hk:(if c=d then AA c else AE)=AA k:=hk
   split at hk
   ·rename_i hcd;cases hk;subst hcd;refine⟨_,rfl,by rw[T.k7];rfl,?_⟩;refine g9 T.k7 rfl [AA (.tup [.str "case",t.d,u.d,v.d]),AA (.ref ca),AA (.ref ka),AA (.ref sh)] rfl ?_;unfold af7;walk_at "es";rw[l5 (.inl hc)];refine⟨_,rfl,?_⟩;rw[l5 (.inl hc)];refine⟨_,rfl,?_⟩;rw[ab3];walk_at "ek";walk_at "es";rw[l5 (.inl hc)];exact⟨_,rfl,c0 (c0 (here q (hh _ (by simp))))⟩
   ·cases hk
 case lets t u=>
  match ks,hk with
  |[a,c],hk=>
   cases hk;refine⟨_,rfl,by rw[T.k10];rfl,?_⟩;refine g9 T.k10 rfl [AA (.tup [.str "let",t.d,u.d]),AA (.ref ca),AA (.ref ka),AA (.ref sh)] rfl ?_;unfold af9;walk_at "es";rw[l5 (.inl hc)];exact⟨_,rfl,c0 (c0 (here q (hh _ (by simp))))⟩
 case give t u=>
  match ks,hk with
  |[.way a b,c],hk=>
   have hk:(if a=c then AA b else AE)=AA k:=hk
   split at hk
   ·rename_i hcd;cases hk;subst hcd;refine⟨_,rfl,by rw[T.k9];rfl,?_⟩;refine g9 T.k9 rfl [AA (.tup [.str "give",t.d,u.d]),AA (.ref ca),AA (.ref ka),AA (.ref sh),AE] rfl ?_;unfold af4;walk_at "es";refine⟨by rw[T.hvs];rfl,?_⟩;rw[l5 (.inl hc)];refine⟨_,rfl,Y4 T (w:="way") (k:=.way a k) rfl K (hh _ (by simp)) λh1 h2=>?_⟩;walk_at "es";rw[l5 (.inl hc)];refine⟨_,rfl,?_⟩;rw[ab3];walk_at "ek";walk_at "es";exact c0 (c0 (here q h2))
   ·cases hk
 case left b t=>
  match ks,hk with
  |[a],hk=>
   cases hk;have ht':b.nest<=6:=ht;have hz:=R9 ht';refine⟨_,rfl,by rw[T.k5];rfl,?_⟩;refine g9 T.k5 rfl [AA (.tup [.str "left",b.d,t.d]),AA (.ref ca),AA (.ref ka),AA (.ref sh)] rfl ?_;unfold af5;walk_at "es";refine⟨sh,"Shelf",_,rfl,K.A.ins,rfl,by rw[T.blt];rfl,?_⟩;rw[l5 (.inl hc)];refine⟨_,rfl,sh,"Shelf",_,3,rfl,K.A.ins,rfl,by rw[T.lkd];rfl,T.dfl,?_⟩;refine R0 T.toPKd (by lia) (by lia) K (by lia) λS1 st1 a1 a2 a3 K1 a5=>?_;walk_at "ek";rw[<-O7 K1.A.wf (hh a (by simp)) a2];exact U5 T.toPKd (w:="either") K1.A K1.D0 K1.W ((hh _ (by simp)).mono a2) a1 (by lia) λS' st' h1 h2 h3 h4 h5 h6=>c0 (c0 (q S' ws st' h1 (a2.trans h2) (by lia) (K1.up h4 h2 h5) rfl (a5.trans h6)))
 case right b t=>
  match ks,hk with
  |[a],hk=>
   cases hk;have ht':b.nest<=6:=ht;have hz:=R9 ht';refine⟨_,rfl,by rw[T.k6];rfl,?_⟩;refine g9 T.k6 rfl [AA (.tup [.str "right",b.d,t.d]),AA (.ref ca),AA (.ref ka),AA (.ref sh)] rfl ?_;unfold ae3;walk_at "es";refine⟨sh,"Shelf",_,rfl,K.A.ins,rfl,by rw[T.blt];rfl,sh,"Shelf",_,3,rfl,K.A.ins,rfl,by rw[T.lkd];rfl,T.dfl,?_⟩;refine R0 T.toPKd (by lia) (by lia) K (by lia) λS1 st1 a1 a2 a3 K1 a5=>?_;walk_at "ek";rw[l5 (.inl (a5.at' hc hca))];refine⟨.int (nb S a.d:Nat),rfl,?_⟩;rw[<-O7 K1.A.wf (hh a (by simp)) a2];exact U5 T.toPKd (w:="either") K1.A K1.D0 K1.W a1 ((hh _ (by simp)).mono a2) (by lia) λS' st' h1 h2 h3 h4 h5 h6=>c0 (c0 (q S' ws st' h1 (a2.trans h2) (by lia) (K1.up h4 h2 h5) rfl (a5.trans h6)))
 case way b t=>
  match ks,hk with
  |[a],hk=>
   cases hk;have ht':b.nest<=6:=ht;have hz:=R9 ht';refine⟨_,rfl,by rw[T.k8];rfl,?_⟩;refine g9 T.k8 rfl [AA (.tup [.str "way",b.d,t.d]),AA (.ref ca),AA (.ref ka),AA (.ref sh)] rfl ?_;unfold ag0;walk_at "es";refine⟨sh,"Shelf",_,rfl,K.A.ins,rfl,by rw[T.blt];rfl,sh,"Shelf",_,3,rfl,K.A.ins,rfl,by rw[T.lkd];rfl,T.dfl,?_⟩;refine R0 T.toPKd (by lia) (by lia) K (by lia) λS1 st1 a1 a2 a3 K1 a5=>?_;walk_at "ek";rw[l5 (.inl (a5.at' hc hca))];refine⟨.int (nb S a.d:Nat),rfl,?_⟩;rw[<-O7 K1.A.wf (hh a (by simp)) a2];exact U5 T.toPKd (w:="way") K1.A K1.D0 K1.W a1 ((hh _ (by simp)).mono a2) (by lia) λS' st' h1 h2 h3 h4 h5 h6=>c0 (c0 (q S' ws st' h1 (a2.trans h2) (by lia) (K1.up h4 h2 h5) rfl (a5.trans h6)))
 case never b t=>
  match ks,hk with
  |[.non],hk=>
   cases hk;have ht':k.nest<=6:=ht;have hz:=R9 ht';refine⟨_,rfl,by rw[T.k11];rfl,?_⟩;refine g9 T.k11 rfl [AA (.tup [.str "never",k.d,t.d]),AA (.ref ca),AA (.ref ka),AA (.ref sh)] rfl ?_;unfold ae1;walk_at "es";refine⟨sh,"Shelf",_,rfl,K.A.ins,rfl,by rw[T.word];rfl,?_⟩;rw[l5 (.inl hc)];refine⟨.int (nb S (D.tup [.str "none"]):Nat),rfl,ba1 T.toPSh K.A (d:=.str "none") (r:=[]) (hh .non (by simp)) ?_⟩;rw[T3];walk_at "ek";walk_at "es";refine⟨sh,"Shelf",_,3,rfl,K.A.ins,rfl,by rw[T.lkd];rfl,T.dfl,?_⟩;exact R0 T.toPKd (by lia) (by lia) K (by lia) λS' st' h1 h2 h3 h4 h5=>c0 (c0 (q S' ws st' h1 h2 (by lia) h4 rfl h5))
end
def bp5{f:Str}(h:sem P G n f ds st Q):(u3 P G (n+1)).2.1 f ds st Q:=h
noncomputable def KpN(L:List AI)(st st':Sto):Prop:=∀b o,b∉L->(∀c fs,o≠.ins c fs)->st b=AA o->st' b=AA o
def cf5{T:Type}{subs:T->List T}{size:T->Nat}(hsz:∀t,size t=1+((subs t).map size).sum){l S:List T}{r:T}(h:Rn subs l S r):(S.map size).sum<=size r:=by
 induction h with
 |done t=>simp
 |@step h r l S _ ih=>
  have:=hsz h;simp only[Ag,Eu,Aa,Cq,Di,IJ]at ih ⊢;lia
section
variable (T0:PM P G) {T:Type} {enc:T->D} {subs:T->List T} {size:T->Nat} {DQ:T->Prop}
include T0
def cd9{L:List AI}(hsz:∀t,size t=1+((subs t).map size).sum)(hg:∀t,DQ t->∀c∈subs t,DQ c){F M:D}(hF:Cok P F)(hM:Cok P M)(t:T)(hs:size t<=2000)(hgt:DQ t)(hL:∀a∈L,∃o,st a=AA o){Y:AI->List T->List D->Sto->Prop}(hYL:∀{dn S ds st1},Y dn S ds st1->∀a∈L,∃o,st1 a=AA o)
  (hY0:∀dn st',st dn=AE->Kp [] st st'->Y dn [] [] st') (hYk:∀{dn S ds st1 st2},st dn=AE->Y dn S ds st1->Kp [dn] st1 st2->Y dn S ds st2)
  (hp:∀c st' Q,DQ c->Kp [] st st'->(∀d st2,am6 st' st2 d ((subs c).map enc)->Kp [] st' st2->Q d st2)->F9 P G n F [enc c] st' Q)
  (hm:∀c dn la st' Q S ds xs,DQ c->Kp L st st'->st dn=AE->la∉L->la≠dn->st la=AE->st' la=AA (.lst xs)->xs.length=(subs c).length->ds.length=S.length->Y dn (S++subs c) (ds++xs) st'->st' dn=AA (.lst ds)->(S.map size).sum+size c<=size t->(∀d st2,Y dn (S++[c]) (ds++[d]) st2->KpN L st' st2->Kp L st st2->Q d st2)->F9 P G (n+1) M [enc c,.ref la] st' Q)
  (q:∀dn d st',st dn=AE->Y dn [t] [d] st'->Kp L st st'->Q d st'):sem P G (n+2) "made_of_parts" [enc t,F,M] st Q:=by
 refine g9 T0.mop rfl [AA (enc t),AA F,AA M,AE,AE,AE,AE] rfl ?_;unfold X7;walk_at "es";refine⟨by rw[T0.few];rfl,bf5 T0 (DQ:=λc=>DQ c∧size c<=2000) (W:=Unit) (J:=λ_ _=>True) (le:=λ_ _=>True) (L:=[]) (s0:=()) (λ_=>trivial) (λ_ _=>trivial) (λ_ _ _=>trivial) (μ:=λ_=>0) (B:=1) trivial (λ_=>by simp) hsz (λc gc c' hc'=>⟨hg c gc.1 c' hc',BF (Q3 size hc') (by have:=hsz c;have:=gc.2;lia)⟩) hF t hs (AU _) ⟨hgt,hs⟩ (λc st' Q _ gc _ _ K k=>hp c st' Q gc.1 K λd st2 h K2=>k d () st2 h trivial (AU _) trivial K2) λoa st1 l _ hoa0 hord gl hoa _ _ _ K1 hl=>?_⟩;walk_at "es";refine .inr ⟨nofun,?_⟩;walk_at "ek";walk_at "es";intro dn hdn;have hod:oa≠dn:=j7 hoa hdn;have hdn0:st dn=AE:=none_of K1 hdn;have hdL:dn∉L:=λz=>by obtain⟨o,e⟩:=hL dn z;rw[hdn0]at e;cases e
 have hoL:oa∉L:=λz=>by obtain⟨o,e⟩:=hL oa z;rw[hoa0]at e;cases e
 walk_at "es";refine⟨_,.inl (j6 hoa hdn),?_⟩;rw[<-Ii];have kdn:∀(u:Ob)(st2:Sto),Kp L st st2->Kp L st (b0 st2 dn u):=λu st2 K b o nb e=>c8 (K b o nb e) (λz=>by rw[z,hdn0]at e;cases e);refine A9 (λll env st'=>∃(i5 S:List T)(ds:List D)(x5 x6:Option D),ll=i5.map (λc=>D.tup [enc c,.int (subs c).length])∧(∀c∈i5,DQ c∧size c<=2000)∧Rn subs i5 S t∧env=[AA (enc t),AA F,AA M,AA (.ref oa),AA (.ref dn),x5,x6]∧st' dn=AA (.lst ds)∧ds.length=S.length∧S.length+i5.length<=100000∧Y dn S ds st'∧st' oa=AA (.lst (l.map λc=>.tup [enc c,.int (subs c).length]))∧Kp L st st') ?_ ?_ _ _ _ ⟨l.reverse,[],[],AE,AE,rfl,λc hc=>gl c (by simpa using hc),by simpa using bi5 subs hord (.done t) (S0:=[]) ,rfl,c9,rfl,by simp;lia,hY0 dn _ hdn0 (K1.new hdn),j6 hoa hdn,(K1.new hdn).more (by simp)⟩
 ·rintro env st' ⟨i5,S,ds,x5,x6,el,_,hr,rfl,hd,hl',_,hv,hoa',K⟩;have es:i5=[]:=by simpa using el.symm
  subst es;refine⟨.inl hoa',?_⟩;cases hr;obtain⟨d,rfl⟩:∃d,ds=[d]:=by match ds,hl' with|[d],_=>exact⟨d,rfl⟩
  walk_at "es";rw[l5 (.inl hd)];exact⟨d,rfl,c0 (q dn d st' hdn0 hv K)⟩
 ·rintro d0 dl env st' ih ⟨i5,S,ds,x5,x6,el,hin,hr,rfl,hd,hl',hb,hv,hoa',K⟩;refine⟨.inl hoa',?_⟩;cases i5 with
  |nil=>simp at el
  |cons h i5=>
   simp only[Aa,Ah]at el;obtain⟨rfl,rfl⟩:=el;simp only[AW]at hb;have gh:DQ h:=(hin h (by simp)).1;cases hr with
   |@step _ _ _ S hr=>
   simp only[Ac]at hl' hb;obtain⟨ds,xs,rfl,hlS,hlx⟩:∃ds' xs,ds=ds'++xs∧ds'.length=S.length∧xs.length=(subs h).length:=⟨ds.take S.length,ds.drop S.length,(Eh _ _).symm,by rw[DD];lia,by rw[EN];lia⟩;have hss:(subs h).length<=2000:=by
    have h1:=(hin h (by simp)).2;have h2:=hsz h;have h3:=Z9 hsz (subs h);lia
   have main:∀la st2,la∉L->la≠dn->st la=AE->st2 la=AA (.lst xs)->st2 dn=AA (.lst ds)->Kp [dn] st' st2->F9 P G (n+1) M [enc h,.ref la] st2 λd st3=>T8 (.ref dn) d st3 λ_ st4=>p7 (λst'=>rdS st' oa (l.map λc=>.tup [enc c,.int (subs c).length])) (.tup [5,6]) (f8 (Zg P G (n+1)) (.cons (.ex (.app (.v 4) (.callv 2 (.cons (.v 5) (.cons (.ite (.cmp .Gt (.v 6) (.int 0)) (.call "taken" (.cons (.v 4) (.cons (.v 6) .nil))) (.lst .nil)) .nil))))) .nil)) ⟨f8 (Zg P G (n+1)) (.cons (.ret (.ix (.v 4) (.int 0))) .nil) (j8 Q),(j8 Q).rt,(j8 Q).bk,(j8 Q).ct⟩ (i5.map λc=>D.tup [enc c,.int (subs c).length]) [AA (enc t),AA F,AA M,AA (.ref oa),AA (.ref dn),AA (enc h),AA (.int (subs h).length)] st4:=λla st2 hla hne hl0 hl2 hd2 K2=>by
    have KK:Kp L st st2:=λb u nb e=>K2.at' (K b u nb e) (by simp;exact λz=>by rw[z,hdn0]at e;cases e);refine hm h dn la st2 _ S ds xs gh KK hdn0 hla hne hl0 hl2 hlx hlS (hYk hdn0 hv K2) hd2 (by have:=cf5 hsz hr;simpa using this) λd st3 vd N3 K3=>?_;have hd3:=N3 dn _ hdL (λ_ _ z=>by cases z) hd2;rw[A4 hd3];refine⟨A0 (by lia),?_⟩;exact ih _ _ ⟨i5,S++[h],ds++[d],_,_,rfl,λc hc=>hin c (by simp[hc]),hr,rfl,c9,by simp[hlS],by simp;lia,hYk hdn0 vd (Kp.refl.put (by simp)),c8 (N3 oa _ hoL (λ_ _ z=>by cases z) (K2.at' hoa' (by simpa using hod))) hod,kdn _ _ K3⟩
   have inL:∀{p:AI},st' p=AE->p∉L∧st p=AE:=λ{p}hp=>by
    by_cases z:p∈L
    ·obtain⟨o,e⟩:=hYL hv p z;rw[hp]at e;cases e
    ·refine⟨z,?_⟩;cases e:st p with
     |none=>rfl
     |some u=>rw[K.at' e z]at hp;cases hp
   walk_at "ek";walk_at "es";rw[v4 (.inl hd)];refine⟨trivial,U7 hM ?_⟩;walk_at "ek"
   by_cases h0:(subs h).length=0
   ·rw[if_neg (by lia)];intro la hla;have exs:xs=[]:=Ay (by lia);subst exs;exact main la _ (inL hla).1 (j7 hd hla).symm (inL hla).2 c9 (j6 (by simpa using hd) hla) (Kp.refl.new hla)
   ·rw[if_pos (by lia)];refine⟨by rw[T0.taken];rfl,?_⟩;exact a03 T0 hlx hd (by lia) λla st2 hla hne hl2 hd2 K2=>main la st2 (inL hla).1 hne (inL hla).2 hl2 hd2 K2
end
noncomputable def ndF(p:Pg)(la:AI)(x h w:Int)(kd:D):List (Str×D):=[(("program":Str),p.d),(("inside":Str),.ref la),(("number":Str),.int x),(("holders":Str),.int h),(("ways":Str),.int w),(("used":Str),.non),(("kind":Str),kd)]
noncomputable def ndO(p:Pg)(la:AI)(x h w:Int)(kd:D):Ob:=.ins "Node" (ndF p la x h w kd)
noncomputable def B4(d:D):Prop:=d=.non∨∃j:Int,d=.int j
inductive Nd(st0:Sto)(X:List AI)(st:Sto):Int->Pg->AI->List AI->Prop where
 |mk {h:Int} {p:Pg} {a la:AI} {x w:Int} {kd:D} {as:List AI} {fs:List (List AI)}:st a=AA (ndO p la x h w kd)->B4 kd->st la=AA (.lst (as.map D.ref))->la∉X->st0 la=AE->st0 a=AE->as.length=p.kids.length->fs.length=p.kids.length->(∀(i:Nat)c b f,p.kids[i]?=AA c->as[i]?=AA b->fs[i]?=AA f->Nd st0 X st 1 c b f)->Nd st0 X st h p a (a::fs.flatten)
section
variable {st0:Sto} 
def Nd.stay(n:Nd st0 X st h p a f)(hi:∀b∈f,∀o,st b=AA o->st' b=AA o)(hn:KpN X st st'):Nd st0 X st' h p a f:=by
 induction n with
 |@mk h p a la x w kd as fs h1 h2 h3 h4 h5 h6 h7 h8 _ ih=>
  refine .mk (hi a (by simp) _ h1) h2 (hn la _ h4 (λ_ _ z=>by cases z) h3) h4 h5 h6 h7 h8 λi c b f e1 e2 e3=>ih i c b f e1 e2 e3 λb' hb o ho=>hi b' (Ao _ ?_) o ho;exact CG.mpr ⟨f,BE e3,hb⟩
theorem Nd.ins(n:Nd st0 X st h p a f):∀b∈f,∃fl,st b=AA (.ins "Node" fl):=by
 induction n with
 |@mk h p a la x w kd as fs h1 h2 h3 h4 h5 h6 h7 h8 hk ih=>
  intro b hb
  rcases AM.mp hb with rfl|hb
  ·exact⟨_,h1⟩
  ·obtain⟨f,hf,hb⟩:=CG.mp hb;obtain⟨i,hi,rfl⟩:=Ej.mp hf;exact ih i p.kids[i] as[i] fs[i] (AL (by lia)) (AL (by lia)) (AL hi) b hb
def Nd.root(n:Nd st0 X st h p a f):∃la x w kd,st a=AA (ndO p la x h w kd)∧B4 kd∧a∈f∧st0 a=AE:=by
 cases n with
 |mk h1 h2 h3 h4 h5 h6 h7 h8 hk=>exact⟨_,_,_,_,h1,h2,by simp,h6⟩
def Nd.upd(n:Nd st0 X st h p a f)(nd:f.Nodup){x w kd}(ha:st a=AA (ndO p la x h w kd))(hk:B4 kd'):Nd st0 X (b0 st a (ndO p la x h' w' kd')) h' p a f:=by
 cases n with
 |@mk _ _ _ la2 x2 w2 kd2 as fs h1 h2 h3 h4 h5 h6 h7 h8 hks=>
  rw[ha]at h1;simp only[ndO,ndF,Bo,Ob.ins.injEq,Ah,IR,D.ref.injEq,D.int.injEq,true_and,and_true]at h1;obtain⟨rfl,rfl,rfl,rfl⟩:=h1;have hne:la≠a:=λz=>by rw[z,ha]at h3;cases h3
  have hN:KpN X st (b0 st a (ndO p la x h' w' kd')):=λb o _ ho e=>c8 e (λz=>by rw[z,ha]at e;cases e;exact ho _ _ rfl);refine .mk c9 hk (c8 h3 hne) h4 h5 h6 h7 h8 λi c b f e1 e2 e3=>(hks i c b f e1 e2 e3).stay (λb' hb o ho=>c8 ho (λz=>?_)) hN;subst z;exact(BM.mp nd).1 (CG.mpr ⟨f,BE e3,hb⟩)
end
structure PNo(P:i8)(G:Gs):Prop extends PKo P G where
 nin:P (c7 "Node" "__init__")=AA ae0
 ncl:G.cls "Node"=[("program":Str),("inside":Str),("number":Str),("holders":Str),("ways":Str),("used":Str),("kind":Str)]
 nod:P "noded"=AA am0
 fol:P "folded"=AA L6
 kon:P "kind_of_node"=AA af3
 ko:P "kind_of"=AA ai1
 shn:P "shelved_names"=AA ae6
 shk:P "shelved_kind"=AA ae7
section
variable (T:PNo P G) 
include T
def ch8{nd:AI}(q:Q .non (b0 st nd (ndO p la x 0 0 .non))):sem P G (n+1) (c7 "Node" "__init__") [.ref nd,p.d,.ref la,.int x] (b0 st nd (.ins "Node" [])) Q:=by
 refine g9 T.nin rfl [AA (.ref nd),AA p.d,AA (.ref la),AA (.int x)] rfl ?_;unfold ae0;have hc:∀f∈([("program":Str),("inside":Str),("number":Str),("holders":Str),("ways":Str),("used":Str),("kind":Str)]:List Str),f∈G.cls "Node":=λf hf=>by rw[T.ncl];exact hf
 walk_at "es";refine⟨nd,"Node",_,rfl,c9,hc _ (by simp),by decide,?_⟩;rw[N6];walk_at "es";refine⟨nd,"Node",_,rfl,c9,hc _ (by simp),by simp[j9],?_⟩;rw[N6];walk_at "es";refine⟨nd,"Node",_,rfl,c9,hc _ (by simp),by simp[j9,t5],?_⟩;rw[N6];walk_at "es";refine⟨nd,"Node",_,rfl,c9,hc _ (by simp),by simp[j9,t5],?_⟩;rw[N6];walk_at "es";refine⟨nd,"Node",_,rfl,c9,hc _ (by simp),by simp[j9,t5],?_⟩;rw[N6];walk_at "es";refine⟨nd,"Node",_,rfl,c9,hc _ (by simp),by simp[j9,t5],?_⟩;rw[N6];walk_at "es";refine⟨nd,"Node",_,rfl,c9,hc _ (by simp),by simp[j9,t5],?_⟩;rw[N6];walk_at "ek";refine a86 ?_;have e:j9 "kind" .non (j9 "used" .non (j9 "ways" (.int 0) (j9 "holders" (.int 0) (j9 "number" (.int x) (j9 "inside" (.ref la) (j9 "program" p.d []))))))=ndF p la x 0 0 .non:=by simp[j9,t5,ndF]
 rw[e];exact q
end
noncomputable abbrev Tre:=Int×Pg×AI×List AI
structure FO(st0:Sto)(X:List AI)(l:List Tre)(st:Sto):Prop where
 nd:∀e∈l,Nd st0 X st e.1 e.2.1 e.2.2.1 e.2.2.2
 dj:(l.map (·.2.2.2)).flatten.Nodup
section
variable {st0:Sto} {l l1 l2:List Tre}
theorem FO.stay(h:FO st0 X l st)(hi:∀b∈(l.map (·.2.2.2)).flatten,∀o,st b=AA o->st' b=AA o)(hn:KpN X st st'):FO st0 X l st':=
 ⟨λe he=>(h.nd e he).stay (λb hb=>hi b (CG.mpr ⟨_,Ce.mpr ⟨e,he,rfl⟩,hb⟩)) hn,h.dj⟩
theorem FO.upd{w:Int}{lb:AI}(F:FO st0 X (l1++(h,c,b,f)::l2) st)(hb:st b=AA (ndO c lb x h w kd))(hk:B4 kd'):FO st0 X (l1++(h',c,b,f)::l2) (b0 st b (ndO c lb x h' w' kd')):=by
 have n:=F.nd (h,c,b,f) (by simp);obtain⟨_,_,_,_,_,_,hbf,_⟩:=n.root;have dj:=F.dj;simp only[Ag,Aa,CO,CC]at dj;have d1:=Ew.mp dj;have d2:=Ew.mp d1.2.1;have hN:KpN X st (b0 st b (ndO c lb x h' w' kd')):=λb' o _ ho e=>c8 e (λz=>by rw[z,hb]at e;cases e;exact ho _ _ rfl);refine⟨λe he=>?_,by simpa using dj⟩
 rcases Bc.mp he with h1|h1
 ·refine(F.nd e (by simp[h1])).stay (λb' hb' o ho=>c8 ho (λz=>?_)) hN;exact d1.2.2 b' (CG.mpr ⟨_,Ce.mpr ⟨e,h1,rfl⟩,hb'⟩) b (Dk _ hbf) z
 ·rcases AM.mp h1 with rfl|h1
  ·exact n.upd d2.1 hb hk
  ·refine(F.nd e (by simp[h1])).stay (λb' hb' o ho=>c8 ho (λz=>?_)) hN;exact d2.2.2 b hbf b' (CG.mpr ⟨_,Ce.mpr ⟨e,h1,rfl⟩,hb'⟩) z.symm
def Nd.monoX{Y:List AI}(n:Nd st0 X st h p a f)(hX:∀y∈Y,y∈X):Nd st0 Y st h p a f:=by
 induction n with
 |mk h1 h2 h3 h4 h5 h6 h7 h8 _ ih=>exact .mk h1 h2 h3 (λz=>h4 (hX _ z)) h5 h6 h7 h8 ih
end
def b88{w:Int}:j9 "holders" (.int h') (ndF p la x h w kd)=ndF p la x h' w kd:=by simp[j9,t5,ndF]
def ax1{w:Int}:j9 "ways" (.int w') (ndF p la x h w kd)=ndF p la x h w' kd:=by simp[j9,t5,ndF]
def b72{w:Int}:j9 "kind" kd' (ndF p la x h w kd)=ndF p la x h w kd':=by simp[j9,t5,ndF]
section
variable (T:PNo P G) 
include T
def b76{na:AI}(hn:5<=n)(hp:p.parts<=2000)(hna:st na=AA (.lst []))(hX:∀x∈X,∃o,st x=AA o)
  (q:∀a f st',Nd st X st' 0 p a f->Kp [na] st st'->Q (.ref a) st'):sem P G n "noded" [p.d,.ref na] st Q:=by
 obtain⟨n,rfl⟩:∃m,n=m+5:=⟨n-5,by lia⟩;have hc:∀f∈([("program":Str),("inside":Str),("number":Str),("holders":Str),("ways":Str),("used":Str),("kind":Str)]:List Str),f∈G.cls "Node":=λf hf=>by rw[T.ncl];exact hf
 refine g9 T.nod rfl [AA p.d,AA (.ref na),AE,AE,AE] rfl ?_;unfold am0;walk_at "es";walk_at "es";refine⟨by rw[T.mop];rfl,by rw[T.inner];rfl,?_⟩;refine cd9 T.toPM (n:=n+2) (T:=Pg) (enc:=Pg.d) (subs:=Pg.kids) (size:=Pg.parts) (DQ:=λ_=>True) (L:=[na]) Pg.parts_kids (λ_ _ _ _=>trivial) (F:=.fn "inner") (show(P _).isSome=AC by rw[T.inner];rfl) (show Cok P (.clo _ _ _ _) from trivial) p hp trivial (by simp;exact⟨_,hna⟩)
  (Y:=λdn S ds st'=>∃(l:List Tre)(nl:List D),FO st (dn::na::X) l st'∧l.map (·.2.1)=S∧ds=l.map (λe=>D.ref e.2.2.1)∧(∀e∈l,e.1=0)∧dn∉(l.map (·.2.2.2)).flatten∧st' na=AA (.lst nl)∧nl.length=(S.map Pg.parts).sum) ?_ ?_ ?_ ?_ ?_ ?_
 ·rintro dn S ds st1 ⟨l,nl,_,_,_,_,_,h,_⟩ a ha;simp at ha;subst ha;exact⟨_,h⟩
 ·intro dn st' hdn K;exact⟨[],[],⟨by simp,by simp⟩,rfl,rfl,by simp,by simp,K.at' hna (by simp),by simp⟩
 ·rintro dn S ds st1 st2 hdn ⟨l,nl,F,e1,e2,e3,e4,e5,e6⟩ K;refine⟨l,nl,F.stay (λb hb o ho=>K.at' ho (by simp;exact λz=>e4 (z▸hb))) (λb o hb _ ho=>K.at' ho (by simp at hb ⊢;exact hb.1)),e1,e2,e3,e4,K.at' e5 (by simp;exact λz=>by rw[z,hdn]at hna;cases hna),e6⟩
 ·intro c st' Q _ K k;refine b26 T.toPIn c λa ha=>k _ _ (.inr ⟨a,rfl,ha,c9⟩) (Kp.refl.new ha)
 ·rintro c dn la st' Q S ds xs _ K hdn hlaL hne hl0 hla hlx hlS ⟨l,nl,F,e1,e2,e3,e4,e5,e6⟩ hd hsum k;obtain⟨l1,l2,rfl,m1,m2⟩:∃l1 l2:List Tre,l=l1++l2∧l1.map (·.2.1)=S∧l2.map (·.2.1)=c.kids:=by
   refine⟨l.take S.length,l.drop S.length,(Eh _ _).symm,?_,?_⟩
   ·rw[JN,e1,Ic];rfl
   ·rw[JO,e1,List.drop_left'];rfl
  rw[Ag]at e2;have hl1:l1.length=S.length:=by rw[<-m1,AV]
  obtain⟨x1,x2⟩:=List.append_inj e2 (by rw[hlS,AV,hl1]);subst x1 x2;have hpc:=Pg.parts_kids c;rw[Ag,Eu]at e6;refine aa5 rfl [AA c.d,AA (.ref la),AA (.ref na),AE,AE] rfl ?_;walk_at "es";refine⟨by show(AC&&_)=AC;rw[T.nin];rfl,?_⟩;rw[u0 (.inl e5)];intro nd hnd;refine bp5 (n:=n+1) ?_;refine ch8 T ?_;refine⟨rfl,?_⟩;have hndna:na≠nd:=j7 e5 hnd;have hnl:nd≠la:=λz=>by rw[<-z,hnd]at hla;cases hla
  have hnd0:st nd=AE:=by
   cases z:st nd with
   |none=>rfl
   |some u=>
    by_cases hz:nd=na
    ·exact absurd hz.symm hndna
    ·rw[K.at' z (by simpa using hz)]at hnd;cases hnd
  have fr:∀b∈((l1++l2).map (·.2.2.2)).flatten,b≠nd:=λb hb z=>by
   obtain⟨f,hf,hb⟩:=CG.mp hb;obtain⟨e,he,rfl⟩:=Ce.mp hf;obtain⟨fl,h⟩:=(F.nd e he).ins b hb;rw[z,hnd]at h;cases h
  have fna:∀b∈((l1++l2).map (·.2.2.2)).flatten,b≠na:=λb hb z=>by
   obtain⟨f,hf,hb⟩:=CG.mp hb;obtain⟨e,he,rfl⟩:=Ce.mp hf;obtain⟨fl,h⟩:=(F.nd e he).ins b hb;rw[z,e5]at h;cases h
  walk_at "es";have e5':b0 st' nd (ndO c la nl.length 0 0 .non) na=AA (.lst nl):=j6 e5 hnd;rw[v4 (.inl e5'),A4 e5'];refine⟨trivial,A0 (by lia),?_⟩;have N1:KpN [na] st' (b0 (b0 st' nd (ndO c la nl.length 0 0 .non)) na (.lst (nl++[.ref nd]))):=λb o hb _ ho=>c8 (j6 ho hnd) (by simpa using hb);have K1:Kp [na] st (b0 (b0 st' nd (ndO c la nl.length 0 0 .non)) na (.lst (nl++[.ref nd]))):=(K.new hnd).put (by simp);have F1:FO st (dn::na::X) (l1++l2) (b0 (b0 st' nd (ndO c la nl.length 0 0 .non)) na (.lst (nl++[.ref nd]))):=F.stay (λb hb o ho=>c8 (j6 ho hnd) (fna b hb)) (λb o hb _ ho=>c8 (j6 ho hnd) (by simp at hb;exact hb.2.1));have d1:(b0 (b0 st' nd (ndO c la nl.length 0 0 .non)) na (.lst (nl++[.ref nd]))) nd=AA (ndO c la nl.length 0 0 .non):=c8 c9 hndna.symm;have na1:(b0 (b0 st' nd (ndO c la nl.length 0 0 .non)) na (.lst (nl++[.ref nd]))) na=AA (.lst (nl++[.ref nd])):=c9;have la1:=N1 la _ hlaL (λ_ _ z=>by cases z) hla;revert N1 K1 F1 d1 na1 la1;generalize b0 (b0 st' nd (ndO c la nl.length 0 0 .non)) na (.lst (nl++[.ref nd]))=s1;intro N1 K1 F1 d1 na1 la1;have e3':∀e∈l1,e.1=0:=λe he=>e3 e (by simp[he]);have e32:∀e∈l2,e.1=0:=λe he=>e3 e (by simp[he]);walk_at "es";refine⟨_,.inl la1,?_⟩;refine A9 (λll env s2=>∃(pre suf:List Tre)(w:Int)(x4:Option D),ll=suf.map (λe=>D.ref e.2.2.1)∧(pre++suf).map (·.2)=l2.map (·.2)∧(∀e∈pre,e.1=1)∧(∀e∈suf,e.1=0)∧env=[AA c.d,AA (.ref la),AA (.ref na),AA (.ref nd),x4]∧FO st (dn::na::X) (l1++(pre++suf)) s2∧s2 nd=AA (ndO c la nl.length 0 w .non)∧KpN [na] st' s2∧Kp [na] st s2∧s2 na=AA (.lst (nl++[.ref nd]))) ?_ ?_ _ _ _ ⟨[],l2,0,AE,rfl,rfl,by simp,e32,rfl,F1,d1,N1,K1,na1⟩
  ·rintro env s2 ⟨pre,suf,w,x4,el,em,hp1,_,rfl,F2,d2,N2,K2,na2⟩;have es:suf=[]:=by simpa using el.symm
   subst es;rw[BP]at em F2;refine⟨.inl (N2 la _ hlaL (λ_ _ z=>by cases z) hla),?_⟩;have fin:∀(w:Int)(s3:Sto),FO st (dn::na::X) (l1++pre) s3->s3 nd=AA (ndO c la nl.length 0 w .non)->KpN [na] st' s3->Kp [na] st s3->s3 na=AA (.lst (nl++[.ref nd]))->Q (.ref nd) s3:=by
    intro w s3 F3 d3 N3 K3 na3;have hk:pre.map (·.2.1)=c.kids:=by
     have:=congrArg (FY (λz:Pg×AI×List AI=>z.1)) em;rw[CL,CL]at this;rw[<-m2];exact this
    have hf:pre.map (·.2.2.2)=l2.map (·.2.2.2):=by
     have:=congrArg (FY (λz:Pg×AI×List AI=>z.2.2)) em;rw[CL,CL]at this;exact this
    have hr:pre.map (λe=>D.ref e.2.2.1)=l2.map (λe=>D.ref e.2.2.1):=by
     have:=congrArg (FY (λz:Pg×AI×List AI=>D.ref z.2.1)) em;rw[CL,CL]at this;exact this
    have hla3:s3 la=AA (.lst ((pre.map (·.2.2.1)).map D.ref)):=by
     rw[N3 la _ hlaL (λ_ _ z=>by cases z) hla,CL,<-hr];rfl
    have hkl:pre.length=c.kids.length:=by rw[<-hk,AV]
    have hf2:((l1++pre).map (·.2.2.2)).flatten=((l1++l2).map (·.2.2.2)).flatten:=by rw[Ag,Ag,hf]
    have hfl:((l1++[((0:Int),c,nd,nd::(pre.map (·.2.2.2)).flatten)]).map (·.2.2.2)).flatten=(l1.map (·.2.2.2)).flatten++nd::(pre.map (·.2.2.2)).flatten:=by simp
    refine k (.ref nd) s3 ⟨l1++[(0,c,nd,nd::(pre.map (·.2.2.2)).flatten)],nl++[.ref nd],⟨λe he=>?_,?_⟩,by rw[Ag,m1];rfl,by rw[Ag];rfl,λe he=>?_,?_,na3,by simp only[Ac,AW,BQ,Ag,Aa,Cq,Eu,Di,IJ];lia⟩ N3 K3
    ·rcases Bc.mp he with he|he
     ·exact F3.nd e (by simp[he])
     ·simp only[Bi]at he;subst he;refine .mk d3 (.inl rfl) hla3 ?_ hl0 hnd0 (by rw[AV,hkl]) (by rw[AV,hkl]) λi c' b' f' x1 x2 x3=>?_
      ·simp only[AM,not_or];refine⟨hne,by simpa using hlaL,λz=>?_⟩;obtain⟨o,h⟩:=hX la z;rw[hl0]at h;cases h
      ·rw[Am]at x2 x3;rw[<-hk,Am]at x1;cases hi:pre[i]? with
       |none=>rw[hi]at x1;cases x1
       |some e=>
        rw[hi]at x1 x2 x3;cases x1;cases x2;cases x3;have hm:=BE hi;have:=F3.nd e (by simp[hm]);rw[hp1 e hm]at this;exact this
    ·rw[hfl];have dj:=F3.dj;rw[Ag,CO]at dj;obtain⟨g1,g2,g3⟩:=Ew.mp dj;have gn:∀x∈((l1++pre).map (·.2.2.2)).flatten,x≠nd:=λx hx=>fr x (by rw[<-hf2];exact hx);rw[Ew];refine⟨g1,BM.mpr ⟨λz=>gn nd (by rw[Ag,CO];exact BD _ z) rfl,g2⟩,λx hx y hy=>?_⟩
     rcases AM.mp hy with rfl|hy
     ·exact gn x (by rw[Ag,CO];exact Dk _ hx)
     ·exact g3 x hx y hy
    ·rcases Bc.mp he with he|he
     ·exact e3' e he
     ·simp only[Bi]at he;subst he;rfl
    ·rw[hfl];intro z;have hdnd:dn≠nd:=j7 hd hnd
     rcases Bc.mp z with z|z
     ·exact e4 (by rw[Ag,CO];exact Dk _ z)
     ·rcases AM.mp z with z|z
      ·exact hdnd z
      ·exact e4 (by rw[Ag,CO,<-hf];exact BD _ z)
   obtain⟨w0,r0,hcd⟩:∃(w0:String)(r0:List D),c.d=.tup (.str w0::r0):=by cases c<;>exact⟨_,_,rfl⟩
   rw[hcd];walk_at "es"
   by_cases hw:w0="way"
   ·simp only[hw,if_true];walk_at "es";refine⟨nd,"Node",_,.int w,rfl,d2,hc _ (by simp),rfl,?_⟩;walk_at "ek";refine⟨nd,"Node",_,rfl,d2,hc _ (by simp),by simp[ndF],?_⟩;rw[ax1];walk_at "es";have hx:∀b∈((l1++pre).map (·.2.2.2)).flatten,b≠nd:=λb hb=>fr b (by
     have hf:pre.map (·.2.2.2)=l2.map (·.2.2.2):=by
      have:=congrArg (FY (λz:Pg×AI×List AI=>z.2.2)) em;rw[CL,CL]at this;exact this
     rw[Ag,<-hf,<-Ag];exact hb)
    refine c0 (fin (w+1) _ (F2.stay (λb hb o ho=>c8 ho (hx b hb)) λb o _ ho h=>c8 h (λz=>by rw[z,d2]at h;cases h;exact ho _ _ rfl)) c9 (λb o hb ho h=>c8 (N2 b o hb ho h) (λz=>by rw[z,hnd]at h;cases h)) (λb o hb h=>c8 (K2 b o hb h) (λz=>by rw[z,hnd0]at h;cases h)) (c8 na2 hndna))
   ·simp only[hw,if_false];walk_at "es";exact c0 (fin w s2 F2 d2 N2 K2 na2)
  ·rintro d0 dl env s2 ih ⟨pre,suf,w,x4,el,em,hp1,hs0,rfl,F2,d2,N2,K2,na2⟩;refine⟨.inl (N2 la _ hlaL (λ_ _ z=>by cases z) hla),?_⟩;cases suf with
   |nil=>simp at el
   |cons e suf=>
    simp only[Aa,Ah]at el;obtain⟨rfl,rfl⟩:=el;obtain⟨h0,ce,b,f⟩:=e;have hh:h0=0:=hs0 (h0,ce,b,f) (by simp);subst hh;have ne:=F2.nd (0,ce,b,f) (by simp);obtain⟨lb,xb,wb,kb,hb,hkb,hbf,_⟩:=ne.root;have hbn:b≠nd:=fr b (by
     have hf:(pre++(0,ce,b,f)::suf).map (·.2.2.2)=l2.map (·.2.2.2):=by
      have:=congrArg (FY (λz:Pg×AI×List AI=>z.2.2)) em;rw[CL,CL]at this;exact this
     rw[Ag,<-hf,<-Ag];exact CG.mpr ⟨f,Ce.mpr ⟨(0,ce,b,f),by simp,rfl⟩,hbf⟩)
    have hbna:b≠na:=λz=>by rw[z,na2]at hb;cases hb
    have hb0:st b=AE:=by
     obtain⟨_,_,_,_,_,_,_,h⟩:=ne.root;exact h
    have hbst:∀o,(∀c fs,o≠.ins c fs)->st' b≠AA o:=λo ho h=>by
     have:=N2 b o (by simpa using hbna) ho h;rw[hb]at this;cases this;exact ho _ _ rfl
    walk_at "ek";walk_at "es";refine⟨b,"Node",_,.int 0,rfl,hb,hc _ (by simp),rfl,?_⟩;walk_at "ek";refine⟨b,"Node",_,rfl,hb,hc _ (by simp),by simp[ndF],?_⟩;rw[b88];have F3:FO st (dn::na::X) ((l1++pre)++(1,ce,b,f)::suf) (b0 s2 b (ndO ce lb xb 1 wb kb)):=FO.upd (h:=0) (w:=wb) (kd:=kb) (by rw[CT];exact F2) hb hkb;have d3:(b0 s2 b (ndO ce lb xb 1 wb kb)) nd=AA (ndO c la nl.length 0 w .non):=c8 d2 hbn.symm;have b3:(b0 s2 b (ndO ce lb xb 1 wb kb)) b=AA (ndO ce lb xb 1 wb kb):=c9;have N3:KpN [na] st' (b0 s2 b (ndO ce lb xb 1 wb kb)):=λb' o hb' ho h=>c8 (N2 b' o hb' ho h) (λz=>hbst o ho (z▸h));have K3:Kp [na] st (b0 s2 b (ndO ce lb xb 1 wb kb)):=λb' o hb' h=>c8 (K2 b' o hb' h) (λz=>by rw[z,hb0]at h;cases h);have na3:=c8 (u:=ndO ce lb xb 1 wb kb) na2 hbna.symm;have e01:((0:Int)+1)=1:=by decide
    rw[e01];show f8 _ _ _ _ (b0 s2 b (ndO ce lb xb 1 wb kb));revert F3 d3 b3 N3 K3 na3;generalize b0 s2 b (ndO ce lb xb 1 wb kb)=s3;intro F3 d3 b3 N3 K3 na3;walk_at "es";refine⟨nd,"Node",_,.int w,rfl,d3,hc _ (by simp),rfl,?_⟩;walk_at "ek";refine⟨b,"Node",_,.int wb,rfl,b3,hc _ (by simp),rfl,?_⟩;walk_at "ek";refine⟨nd,"Node",_,rfl,d3,hc _ (by simp),by simp[ndF],?_⟩;rw[ax1];walk_at "ek";refine ih _ _ ⟨pre++[(1,ce,b,f)],suf,_,_,rfl,by rw[<-em];simp,λe he=>?_,λe he=>hs0 e (by simp[he]),rfl,?_,c9,λb' o hb' ho h=>c8 (N3 b' o hb' ho h) (λz=>by rw[z,hnd]at h;cases h),λb' o hb' h=>c8 (K3 b' o hb' h) (λz=>by rw[z,hnd0]at h;cases h),c8 na3 hndna⟩
    ·rcases Bc.mp he with he|he
     ·exact hp1 e he
     ·simp only[Bi]at he;subst he;rfl
    ·have F4:FO st (dn::na::X) (l1++((pre++[(1,ce,b,f)])++suf)) s3:=by simpa using F3
     refine F4.stay (λb' hb' o ho=>c8 ho (fr b' ?_)) λb' o _ ho h=>c8 h (λz=>by rw[z,d3]at h;cases h;exact ho _ _ rfl);have hf:((pre++[((1:Int),ce,b,f)])++suf).map (·.2.2.2)=l2.map (·.2.2.2):=by
      have:=congrArg (FY (λz:Pg×AI×List AI=>z.2.2)) em;rw[CL,CL]at this;refine Jc ?_ this;simp[Function.comp_def]
     rw[Ag,<-hf,<-Ag];exact hb'
 ·rintro dn d st' hdn ⟨l,nl,F,e1,e2,e3,e4,e5,e6⟩ K
  match l,e1 with
  |[e],e1=>
   have e1:e.2.1=p:=by simpa using e1
   have n:=F.nd e (by simp);rw[e3 e (by simp),e1]at n;have:d=.ref e.2.2.1:=by simpa using e2
   subst this;exact c0 (q _ _ st' (n.monoX (by intro y hy;simp[hy])) K)
end
structure KpI(R L:List AI)(st st':Sto):Prop where
 n:KpN L st st'
 i:∀b c la x h w kd,st b=AA (ndO c la x h w kd)->B4 kd->∃kd',B4 kd'∧st' b=AA (ndO c la x h w kd')
 e:∀b,st' b=AE->st b=AE
 k:∀b o,b∉L->b∉R->st b=AA o->st' b=AA o
section
variable {M:List AI} {s1 s2 s3:Sto} {p:AI} {o:Ob} {es:List D}
def G5{q:AI}(h:b0 st p o q=AE):st q=AE:=by
 by_cases z:q=p
 ·rw[z,c9]at h;cases h
 ·cases e:st q with
  |none=>rfl
  |some u=>rw[c8 e z]at h;cases h
def KpI.refl:KpI R L st st:=⟨λ_ _ _ _ h=>h,λ_ _ _ _ _ _ kd h k=>⟨kd,k,h⟩,λ_ h=>h,λ_ _ _ _ h=>h⟩
def KpI.trans(a:KpI R L s1 s2)(b:KpI R L s2 s3):KpI R L s1 s3:=⟨λx o n ho h=>b.n x o n ho (a.n x o n ho h),λx c la y h w kd e k=>by
 obtain⟨kd1,k1,e1⟩:=a.i x c la y h w kd e k;exact b.i x c la y h w kd1 e1 k1,λx h=>a.e x (b.e x h),λx o n m h=>b.k x o n m (a.k x o n m h)⟩
def KpI.more(a:KpI R L s1 s2)(s:∀d∈L,d∈M):KpI R M s1 s2:=⟨λx o n ho h=>a.n x o (λz=>n (s x z)) ho h,a.i,a.e,λx o n m h=>a.k x o (λz=>n (s x z)) m h⟩
def KpI.new(a:KpI R L st st')(h:st' p=AE):KpI R L st (b0 st' p o):=a.trans ⟨λx o n ho e=>j6 e h,λx c la y h' w kd e k=>⟨kd,k,j6 e h⟩,λ_ h=>G5 h,λ_ _ _ _ e=>j6 e h⟩
def KpI.put(a:KpI R L st st')(h:p∈L)(hl:st' p=AA (.lst ds)):KpI R L st (b0 st' p o):=a.trans ⟨λx o n ho e=>c8 e (λz=>n (z▸h)),λx c la y h' w kd e k=>⟨kd,k,c8 e (λz=>by rw[z,hl]at e;cases e)⟩,λ_ h=>G5 h,λx o n _ e=>c8 e (λz=>n (z▸h))⟩
def KpI.drop(a:KpI R (p::L) st st')(h:st p=AE):KpI R L st st':=⟨λx o n ho e=>a.n x o (λz=>by rcases AM.mp z with z|z;exact j7 e h z;exact n z) ho e,a.i,a.e,λx o n m e=>a.k x o (λz=>by rcases AM.mp z with z|z;exact j7 e h z;exact n z) m e⟩
theorem KpI.lst(a:KpI R L st st')(h:st p=AA (.lst ds))(n:p∉L):st' p=AA (.lst ds):=a.n p _ n (λ_ _ z=>by cases z) h
def KA.noNode{S:List It3}(K:KA sh dn sa pa wa S ws st){fl:List (Str×D)}(h:st b=AA (.ins "Node" fl)):b∉shL sh dn sa pa wa:=by
 intro z;simp only[AM,Ae,or_false]at z
 rcases z with rfl|rfl|rfl|rfl|rfl
 ·have:=K.A.ins;rw[h]at this;simp[t5]at this
 ·have:=K.A.num;rw[h]at this;simp at this
 ·have:=K.A.sto;rw[h]at this;simp at this
 ·have:=K.A.par;rw[h]at this;simp at this
 ·have:=K.W;rw[h]at this;simp at this
def KpI.ofKp{S:List It3}(K:KA sh dn sa pa wa S ws st)(K':KA sh dn sa pa wa S' ws' st')(x:Kp (shL sh dn sa pa wa) st st'):KpI R (shL sh dn sa pa wa) st st':=⟨λb o n _ h=>x b o n h,λb c la y h w kd e k=>⟨kd,k,x b _ (K.noNode e) e⟩,λb hb=>(by
 by_cases z:b∈shL sh dn sa pa wa
 ·simp only[AM,Ae,or_false]at z
  rcases z with rfl|rfl|rfl|rfl|rfl
  ·have:=K'.A.ins;rw[hb]at this;cases this
  ·have:=K'.A.num;rw[hb]at this;cases this
  ·have:=K'.A.sto;rw[hb]at this;cases this
  ·have:=K'.A.par;rw[hb]at this;cases this
  ·have:=K'.W;rw[hb]at this;cases this
 ·cases e:st b with
  |none=>rfl
  |some u=>rw[x b u z e]at hb;cases hb),λb o n _ h=>x b o n h⟩
def Nd.kpi{st0:Sto}{p:Pg}(n:Nd st0 X st h p a f)(K:KpI R L st st')(hL:∀y∈L,y∈X):Nd st0 X st' h p a f:=by
 induction n with
 |@mk h p a la x w kd as fs h1 h2 h3 h4 h5 h6 h7 h8 _ ih=>
  obtain⟨kd',k',e'⟩:=K.i a p la x h w kd h1 h2;exact .mk e' k' (K.lst h3 λz=>h4 (hL _ z)) h4 h5 h6 h7 h8 ih
def Nd.addX{st0:Sto}{p:Pg}{x:AI}(n:Nd st0 X st h p a f)(hx:st x=AE):Nd st0 (x::X) st h p a f:=by
 induction n with
 |mk h1 h2 h3 h4 h5 h6 h7 h8 _ ih=>exact .mk h1 h2 h3 (λz=>by rcases AM.mp z with z|z;exact j7 h3 hx z;exact h4 z) h5 h6 h7 h8 ih
end
noncomputable def ap6(P:i8)(G:Gs)(n:Nat)(sh dn sa pa wa:AI)(nm:D):Prop:=∀(st:Sto)(S:List It3)(ws:List (Kd×Bool))(ca:AI)(p:Pg)(i:Nat)(a:Kd)(ks:List Kd)(Q:DK),KA sh dn sa pa wa S ws st->p.told 6->p.more i=1->p.nw ks i=AA a->st ca=AA (.lst (u1 S ks))->(∀k∈ks,Has S k.d)->S.length+128<=900000->StQ sh dn sa pa wa S ws st a Q->F9 P G n nm [p.d,.ref ca,.int i] st Q
noncomputable def aq7(P:i8)(G:Gs)(n:Nat)(sh dn sa pa wa:AI)(md:D):Prop:=∀(st:Sto)(S:List It3)(ws:List (Kd×Bool))(ca ka b la:AI)(p:Pg)(Γ:List Kd)(k:Kd)(ks:List Kd)(kn:List Int)(x h w:Int)(kd:D)(Q:DK),KA sh dn sa pa wa S ws st->p.told 6->p.kk Γ ks=AA k->st ca=AA (.lst (u1 S ks))->(∀k∈ks,Has S k.d)->st ka=AA (.lst (kn.map D.int))->KnOk S ws Γ kn->ca∉shL sh dn sa pa wa->S.length+128<=900000->st b=AA (ndO p la x h w kd)->B4 kd->(∀S' ws' st' kd',Has S' k.d->S <+: S'->S'.length<=S.length+128->KA sh dn sa pa wa S' ws' st'->WUp ws ws'->Kp (b::shL sh dn sa pa wa) st st'->st' b=AA (ndO p la x h w kd')->B4 kd'->Q (.int (nb S' k.d:Nat)) st')->F9 P G n md [.ref b,.ref ca,.ref ka] st Q
structure FS(sh dn sa pa wa ka ba aa da:AI)(S:List It3)(ws:List (Kd×Bool))(kn:List Int)(B A:List D)(st:Sto):Prop where
 K:KA sh dn sa pa wa S ws st
 k:st ka=AA (.lst (kn.map D.int))
 b:st ba=AA (.lst B)
 a:st aa=AA (.lst A)
 d:st da=AA (.dtt [])
noncomputable abbrev fL(sh dn sa pa wa ka ba aa:AI):List AI:=ka::ba::aa::shL sh dn sa pa wa
noncomputable def E3:Ss:=match L6.body with
 |.cons _ (.cons _ (.cons _ (.cons (.while _ b) _)))=>b
 |_=>.nil
def J0{α:Type}{xs:List α}{x:α}:atI (xs++[x]) (-1)=AA x:=by
 unfold atI ixN;rw[if_neg (by decide),if_pos (by simp only[Ac,AW,BQ];lia)];have:(-1+((xs.length:Int)+1)).toNat=xs.length:=by lia
 simp[this]
section
variable (T:PNo P G) {S:List It3} 
include T
def b39(hnm:Cok P nm)(N:ap6 P G (n+1) sh dn sa pa wa nm)(dj:(ka::ba::aa::da::shL sh dn sa pa wa).Nodup){F:DEnds}{kn:List Int}{B:List D}{w:Int}{as:List AI}{x7 x8 x9 x10:Option D}
  (H:FS sh dn sa pa wa ka ba aa da S ws kn (B++[.ref a]) (A++[.ref ca]) st) (hc:st ca=AA (.lst (u1 S ks))) (hh:∀k∈ks,Has S k.d) (ha:st a=AA (ndO p la x h w kd)) (hkd:B4 kd) (h1:h<=1) (hl:st la=AA (.lst (as.map D.ref))) (hi:p.kids[ks.length]?=AA c) (hb:as[ks.length]?=AA b) (ht:p.told 6) (hC:Cxt p ks ks.length Γ Δ) (hkn:KnOk S ws Γ kn) (hS:S.length+128<=900000) (hB:B.length+1<100000) (hA:A.length+1<100000) (hK:kn.length<100000) (hcl:ca∉ka::ba::aa::da::shL sh dn sa pa wa) (hll:la∉ka::ba::aa::da::shL sh dn sa pa wa)
  (q:∀S' ws' st' kn' cb y7 y8 y9 y10,FS sh dn sa pa wa ka ba aa da S' ws' kn' (B++[.ref a]++[.ref b]) (A++[.ref ca]++[.ref cb]) st'->st' cb=AA (.lst [])->st cb=AE->S <+: S'->S'.length<=S.length+128->WUp ws ws'->KnOk S' ws' Δ kn'->kn'.take kn.length=kn->kn'.length=kn.length+p.more ks.length->KpI R (fL sh dn sa pa wa ka ba aa) st st'->F.ct [AA nd,AA (.ref ka),AA nm,AA md,AA (.ref ba),AA (.ref aa),AA (.ref da),y7,y8,y9,y10] st') :
  f8 (Zg P G (n+1)) E3 F [AA nd,AA (.ref ka),AA nm,AA md,AA (.ref ba),AA (.ref aa),AA (.ref da),x7,x8,x9,x10] st:=by
 have hcl':∀f∈([("program":Str),("inside":Str),("number":Str),("holders":Str),("ways":Str),("used":Str),("kind":Str)]:List Str),f∈G.cls "Node":=λf hf=>by rw[T.ncl];exact hf
 unfold E3 L6;simp only;walk_at "es";rw[l5 (.inl H.b)];refine⟨_,J0,?_⟩;walk_at "es";rw[l5 (.inl H.a)];refine⟨_,J0,?_⟩;rw[u0 (.inl hc)];walk_at "es";refine⟨a,"Node",_,.int h,rfl,ha,hcl' _ (by simp),rfl,?_⟩;walk_at "ek";rw[if_neg (by lia)];walk_at "es";refine⟨H.d,?_⟩;walk_at "ek";refine⟨a,"Node",_,.ref la,rfl,ha,hcl' _ (by simp),rfl,?_⟩;rw[u0 (.inl hl)];walk_at "ek";have hlen:(u1 S ks).length=ks.length:=by simp[u1]
 have hlt:=(AR.mp hb).1;rw[if_pos (by rw[hlen,AV];lia),hlen];simp only[BM,AM,Ae,or_false,not_or]at dj;obtain⟨⟨d1,d2,d3,d4⟩,⟨d5,d6,d7⟩,⟨d8,d9⟩,d10,_⟩:=dj;have hcl0:=hcl;have hll0:=hll;simp only[AM,Ae,or_false,not_or]at hcl hll;have i5:∀(F':DEnds)S' ws' st' kn',F'.ct=F.ct->FS sh dn sa pa wa ka ba aa da S' ws' kn' (B++[.ref a]) (A++[.ref ca]) st'->S <+: S'->S'.length<=S.length+128->WUp ws ws'->KnOk S' ws' Δ kn'->kn'.take kn.length=kn->kn'.length=kn.length+p.more ks.length->KpI R (fL sh dn sa pa wa ka ba aa) st st' ->
   f8 (Zg P G (n+1)) (.cons (.ex (.app (.v 4) (.ix (.fld (.v 7) "inside") (.v 8)))) (.cons (.ex (.app (.v 5) (.lst .nil))) (.cons .cont .nil))) F' [AA nd,AA (.ref ka),AA nm,AA md,AA (.ref ba),AA (.ref aa),AA (.ref da),AA (.ref a),AA (.int ks.length),AA .non,x10] st':=by
  intro F' S' ws' st' kn' eF H' e1 e2 e3 e4 e5 e6 e7;obtain⟨kd',_,ha'⟩:=e7.i a p la x h w kd ha hkd;have hl':=e7.lst hl (by simp[hll]);walk_at "es";rw[v4 (.inl H'.b)];refine⟨trivial,a,"Node",_,.ref la,rfl,ha',hcl' _ (by simp),rfl,?_⟩;rw[l5 (.inl hl')];refine⟨.ref b,by rw[B1,Am,hb];rfl,?_⟩;rw[A4 H'.b];refine⟨A0 (by simp;lia),?_⟩;walk_at "es";rw[v4 (.inl (c8 H'.a (Av d5)))];refine⟨trivial,λcb hcb=>?_⟩;have ncb:=G5 hcb;have cbb:ba≠cb:=j7 H'.b ncb;have cba:aa≠cb:=j7 H'.a ncb;rw[A4 (j6 (c8 H'.a (Av d5)) hcb)];refine⟨A0 (by simp;lia),?_⟩;walk_at "es";rw[eF];have K1:Kp [ba,aa] st' (b0 (b0 (b0 st' ba (.lst (B++[.ref a]++[.ref b]))) cb (.lst [])) aa (.lst (A++[.ref ca]++[.ref cb]))):=((Kp.refl.put (by simp)).new hcb).put (by simp);refine q S' ws' _ kn' cb _ _ _ _ ⟨H'.K.keepL K1 ?_,K1.at' H'.k (by simp[d1,d2]),c8 (c8 c9 cbb) d5,c9,K1.at' H'.d (by simp[Av d6,Av d8])⟩ (c8 c9 (Av cba)) (e7.e _ ncb) e1 e2 e3 e4 e5 e6 (((e7.put (by simp) H'.b).new hcb).put (by simp) (j6 (c8 H'.a (Av d5)) hcb));intro y hy;simp only[AM,Ae,or_false]at hy ⊢
  rcases hy with rfl|rfl
  ·simp[d7]
  ·simp[d9]
 walk_at "es";refine⟨by rw[T.more];rfl,a,"Node",_,p.d,rfl,ha,hcl' _ (by simp),rfl,a61 T.toPIn p ks.length ?_⟩;walk_at "ek"
 rcases hC with⟨m0,rfl⟩|⟨m1,a0,hw,rfl⟩
 ·simp only[m0];rw[if_neg (by decide)];exact i5 _ S ws st kn rfl H (CD _) (by lia) rfl hkn (Ih ..) (by lia) KpI.refl
 ·simp only[m1];walk_at "es";rw[v4 (.inl H.k)];refine⟨trivial,U7 hnm ?_⟩;walk_at "ek";refine⟨a,"Node",_,p.d,rfl,ha,hcl' _ (by simp),rfl,?_⟩;rw[l5 (.inl H.a)];refine⟨_,J0,?_⟩;refine N st S ws ca p ks.length a0 ks _ H.K ht m1 hw hc hh hS λS' ws' st' g1 g2 g3 g4 g5 g6=>?_;have hk':=g6.at' H.k (by simp[d4]);rw[A4 hk'];refine⟨A0 (by simp;lia),?_⟩;have ek:kn.map D.int++[D.int (nb S' a0.d:Nat)]=(kn++[((nb S' a0.d:Nat):Int)]).map D.int:=by simp
  rw[ek];have K1:Kp [ka] st' (b0 st' ka (.lst ((kn++[((nb S' a0.d:Nat):Int)]).map D.int))):=Kp.refl.put (by simp);refine i5 _ S' ws' _ (kn++[((nb S' a0.d:Nat):Int)]) rfl ⟨g4.keepL K1 (by simp[d4]),c9,c8 (g6.at' H.b (by simp[d7])) (Av d1),c8 (g6.at' H.a (by simp[d9])) (Av d2),c8 (g6.at' H.d (by simp[d10])) (Av d3)⟩ g2 g3 g5 ((hkn.up g4.A.wf g2 g5).cons (.inl ⟨rfl,g1⟩)) (by simp) (by simp[m1]) (((KpI.ofKp H.K g4 g6).more (by intro y hy;simp only[AM,Ae,or_false]at hy ⊢;simp[hy])).put (by simp) hk')
end
def KpI.ofMd{S:List It3}{w:Int}(K:KA sh dn sa pa wa S ws st)(K':KA sh dn sa pa wa S' ws' st')(y:Kp (b::shL sh dn sa pa wa) st st')(hb:st b=AA (ndO c la x h w kd))(hb':st' b=AA (ndO c la x h w kd'))(hk:B4 kd')(hbR:b∈R):KpI R (shL sh dn sa pa wa) st st':=by
 refine⟨λz o n ho e=>y z o (λq=>?_) e,λz c2 la2 x2 h2 w2 kd2 e k=>?_,λz hz=>?_,λz o n m e=>y z o (λq=>by rcases AM.mp q with rfl|q;exact m hbR;exact n q) e⟩
 ·rcases AM.mp q with rfl|q
  ·rw[hb]at e;cases e;exact ho _ _ rfl
  ·exact n q
 ·by_cases q:z=b
  ·subst q;rw[hb]at e;refine⟨kd',hk,?_⟩;rw[hb'];simp only[ndO,ndF,Bo,Ob.ins.injEq,Ah,IR,true_and,and_true]at e ⊢;exact⟨e.1,e.2.1,e.2.2.1,e.2.2.2.1,e.2.2.2.2.1⟩
  ·refine⟨kd2,k,y z _ (λt=>?_) e⟩
   rcases AM.mp t with t|t
   ·exact q t
   ·exact K.noNode e t
 ·by_cases q:z∈shL sh dn sa pa wa
  ·exfalso;simp only[AM,Ae,or_false]at q
   rcases q with rfl|rfl|rfl|rfl|rfl
   ·have:=K'.A.ins;rw[hz]at this;cases this
   ·have:=K'.A.num;rw[hz]at this;cases this
   ·have:=K'.A.sto;rw[hz]at this;cases this
   ·have:=K'.A.par;rw[hz]at this;cases this
   ·have:=K'.W;rw[hz]at this;cases this
  ·cases e:st z with
   |none=>rfl
   |some u=>
    by_cases t:z=b
    ·subst t;rw[hb']at hz;cases hz
    ·rw[y z u (by simp only[AM,not_or];exact⟨t,by simpa using q⟩) e]at hz;cases hz
def ba4(p:Pg)(i:Nat):p.more i=0∨p.more i=1:=by
 cases p<;>first|exact .inl rfl|(simp only[Pg.more];split<;>simp)
noncomputable def T5:Ss:=match E3 with
 |.cons _ (.cons _ (.cons _ (.cons _ (.cons _ (.cons _ (.cons _ (.cons _ b)))))))=>b
 |_=>.nil
section
variable (T:PNo P G) {S:List It3} 
include T
def ay2(hmd:Cok P md)(M:aq7 P G (n+1) sh dn sa pa wa md)(dj:(ka::ba::aa::da::shL sh dn sa pa wa).Nodup){F:DEnds}{kn:List Int}{B:List D}{cb:AI}{w:Int}{as:List AI}{x7 x8 x9 x10:Option D}{k:Kd}
  (H:FS sh dn sa pa wa ka ba aa da S ws kn (B++[.ref b]) (A++[.ref cb]) st) (hc:st cb=AA (.lst (u1 S ks))) (hh:∀k∈ks,Has S k.d) (hb:st b=AA (ndO c la x h w kd)) (hkd:B4 kd) (h1:h<=1) (hl:st la=AA (.lst (as.map D.ref))) (hn:as.length=ks.length) (ht:c.told 6) (hk:c.kk Δ ks=AA k) (hkn:KnOk S ws Δ kn) (hS:S.length+128<=900000) (hcl:cb∉shL sh dn sa pa wa) (hbR:b∈R)
  (q:∀S' ws' st' y7 y8,FS sh dn sa pa wa ka ba aa da S' ws' kn B A st'->Has S' k.d->S <+: S'->S'.length<=S.length+128->WUp ws ws'->KpI R (fL sh dn sa pa wa ka ba aa) st st'->f8 (Zg P G (n+1)) T5 F [AA nd,AA (.ref ka),AA nm,AA md,AA (.ref ba),AA (.ref aa),AA (.ref da),y7,y8,AA .non,AA (.int (nb S' k.d:Nat))] st') :
  f8 (Zg P G (n+1)) E3 F [AA nd,AA (.ref ka),AA nm,AA md,AA (.ref ba),AA (.ref aa),AA (.ref da),x7,x8,x9,x10] st:=by
 have hcl':∀f∈([("program":Str),("inside":Str),("number":Str),("holders":Str),("ways":Str),("used":Str),("kind":Str)]:List Str),f∈G.cls "Node":=λf hf=>by rw[T.ncl];exact hf
 simp only[T5]at q;unfold E3 L6 at q ⊢;simp only at q ⊢;walk_at "es";rw[l5 (.inl H.b)];refine⟨_,J0,?_⟩;walk_at "es";rw[l5 (.inl H.a)];refine⟨_,J0,?_⟩;rw[u0 (.inl hc)];walk_at "es";refine⟨b,"Node",_,.int h,rfl,hb,hcl' _ (by simp),rfl,?_⟩;walk_at "ek";rw[if_neg (by lia)];walk_at "es";refine⟨H.d,?_⟩;walk_at "ek";refine⟨b,"Node",_,.ref la,rfl,hb,hcl' _ (by simp),rfl,?_⟩;rw[u0 (.inl hl)];walk_at "ek";have hlen:(u1 S ks).length=ks.length:=by simp[u1]
 rw[if_neg (by rw[hlen,AV];lia),hlen];simp only[BM,AM,Ae,or_false,not_or]at dj;obtain⟨⟨d1,d2,d3,d4⟩,⟨d5,d6,d7⟩,⟨d8,d9⟩,d10,_⟩:=dj;walk_at "es";refine⟨H.d,?_⟩;walk_at "ek";refine U7 hmd ?_;walk_at "ek";rw[l5 (.inl H.a)];refine⟨_,J0,?_⟩;refine M st S ws cb ka b la c Δ k ks kn x h w kd _ H.K ht hk hc hh H.k hkn hcl hS hb hkd λS' ws' st' kd' g1 g2 g3 g4 g5 g6 g7 g8=>?_;have nb0:∀{y:AI}{ds:List D},st y=AA (.lst ds)->y≠b:=λe z=>by rw[z,hb]at e;cases e
 have hb1:=g6.at' H.b (by simp only[AM,Ae,or_false,not_or];exact⟨nb0 H.b,d7⟩);have ha1:=g6.at' H.a (by simp only[AM,Ae,or_false,not_or];exact⟨nb0 H.a,d9⟩);have hk1:=g6.at' H.k (by simp only[AM,Ae,or_false,not_or];exact⟨nb0 H.k,d4⟩);have hd1:=g6.at' H.d (by simp only[AM,Ae,or_false,not_or];exact⟨λz=>(by have:=H.d;rw[z,hb]at this;cases this),d10⟩);walk_at "es";refine .inl ?_;walk_at "es";rw[W9 hb1];walk_at "es";rw[W9 (c8 ha1 (Av d5))];have K1:Kp [ba,aa] st' (b0 (b0 st' ba (.lst B)) aa (.lst A)):=(Kp.refl.put (by simp)).put (by simp);refine q S' ws' _ _ _ ⟨g4.keepL K1 ?_,K1.at' hk1 (by simp[d1,d2]),c8 c9 d5,c9,K1.at' hd1 (by simp[Av d6,Av d8])⟩ g1 g2 g3 g5 ((((KpI.ofMd H.K g4 g6 hb g7 g8 hbR).more (by intro y hy;simp only[AM,Ae,or_false]at hy ⊢;simp[hy])).put (by simp) hb1).put (by simp) (c8 ha1 (Av d5)));intro y hy;simp only[AM,Ae,or_false]at hy ⊢
 rcases hy with rfl|rfl
 ·simp[d7]
 ·simp[d9]
theorem b85{F:DEnds}{kn:List Int}{y7 y8 y9:Option D}{r:D}(H:FS sh dn sa pa wa ka ba aa da S ws kn [] A st)(q:F.rt r st):f8 (Zg P G (n+1)) T5 F [AA nd,AA (.ref ka),AA nm,AA md,AA (.ref ba),AA (.ref aa),AA (.ref da),y7,y8,y9,AA r] st:=by
 unfold T5 E3 L6;simp only;walk_at "es";rw[u0 (.inl H.b)];walk_at "ek";rw[if_pos (by decide)];walk_at "es";exact q
def ch4(dj:(ka::ba::aa::da::shL sh dn sa pa wa).Nodup){F:DEnds}{kn kn0:List Int}{B:List D}{w:Int}{y7 y8 y9:Option D}{r:D}{rs:List D}(H:FS sh dn sa pa wa ka ba aa da S ws kn (B++[.ref a]) (A++[.ref ca]) st)(hc:st ca=AA (.lst rs))(hl:rs.length<100000)(ha:st a=AA (ndO p la x h w kd))(hcl:ca∉ka::ba::aa::da::shL sh dn sa pa wa)(k1:kn.take kn0.length=kn0)(k2:kn.length=kn0.length+p.more rs.length)
  (q:∀st',FS sh dn sa pa wa ka ba aa da S ws kn0 (B++[.ref a]) (A++[.ref ca]) st'->st' ca=AA (.lst (rs++[r]))->KpI R (ca::fL sh dn sa pa wa ka ba aa) st st'->F.nx [AA nd,AA (.ref ka),AA nm,AA md,AA (.ref ba),AA (.ref aa),AA (.ref da),y7,y8,y9,AA r] st'):f8 (Zg P G (n+1)) T5 F [AA nd,AA (.ref ka),AA nm,AA md,AA (.ref ba),AA (.ref aa),AA (.ref da),y7,y8,y9,AA r] st:=by
 have hcl':∀f∈([("program":Str),("inside":Str),("number":Str),("holders":Str),("ways":Str),("used":Str),("kind":Str)]:List Str),f∈G.cls "Node":=λf hf=>by rw[T.ncl];exact hf
 simp only[BM,AM,Ae,or_false,not_or]at dj hcl;obtain⟨⟨d1,d2,d3,d4⟩,⟨d5,d6,d7⟩,⟨d8,d9⟩,d10,_⟩:=dj;obtain⟨c1,c2,c3,c4,c5⟩:=hcl;unfold T5 E3 L6;simp only;walk_at "es";rw[u0 (.inl H.b)];walk_at "ek";rw[if_neg (by simp only[Ac,AW,BQ];lia)];have i5:∀st',FS sh dn sa pa wa ka ba aa da S ws kn0 (B++[.ref a]) (A++[.ref ca]) st'->st' ca=AA (.lst rs)->KpI R (ca::fL sh dn sa pa wa ka ba aa) st st'->f8 (Zg P G (n+1)) (.cons (.ex (.app (.ix (.v 5) (.neg (.int 1))) (.v 10))) .nil) F [AA nd,AA (.ref ka),AA nm,AA md,AA (.ref ba),AA (.ref aa),AA (.ref da),y7,y8,y9,AA r] st':=by
  intro st' H' hc' KI;walk_at "es";rw[l5 (.inl H'.a)];refine⟨_,J0,?_⟩;rw[v4 (.inl hc')];refine⟨trivial,?_⟩;rw[A4 hc'];refine⟨A0 (by lia),?_⟩;have K1:Kp [ca] st' (b0 st' ca (.lst (rs++[r]))):=Kp.refl.put (by simp);exact q _ ⟨H'.K.keepL K1 (by simp[c5]),K1.at' H'.k (by simp[Av c1]),K1.at' H'.b (by simp[Av c2]),K1.at' H'.a (by simp[Av c3]),K1.at' H'.d (by simp[Av c4])⟩ c9 (KI.put (by simp) hc')
 walk_at "es";refine⟨by rw[T.more];rfl,?_⟩;rw[l5 (.inl H.b)];refine⟨_,J0,a,"Node",_,p.d,rfl,ha,hcl' _ (by simp),rfl,?_⟩;rw[l5 (.inl H.a)];refine⟨_,J0,?_⟩;rw[u0 (.inl hc)];refine a61 T.toPIn p rs.length ?_;walk_at "ek";have hm:=ba4 p rs.length
 rcases hm with hm|hm
 ·rw[hm]at k2 ⊢;rw[if_neg (by decide)];have e:kn=kn0:=by rw[DL (by lia)]at k1;exact k1
  subst e;exact i5 st H hc KpI.refl
 ·rw[hm]at k2 ⊢;rw[if_pos (by decide)];obtain⟨e,rfl⟩:∃e,kn=kn0++[e]:=by
   have h3:(kn.drop kn0.length).length=1:=by rw[EN];lia
   match h4:kn.drop kn0.length,h3 with
   |[e],_=>exact⟨e,by have:=Eh kn0.length kn;rw[k1,h4]at this;exact this.symm⟩
  have hk:=H.k;rw[Ag]at hk;walk_at "es";rw[W9 hk];have K1:Kp [ka] st (b0 st ka (.lst (kn0.map D.int))):=Kp.refl.put (by simp);exact i5 _ ⟨H.K.keepL K1 (by simp[d4]),c9,K1.at' H.b (by simp[Av d1]),K1.at' H.a (by simp[Av d2]),K1.at' H.d (by simp[Av d3])⟩ (K1.at' hc (by simp[c1])) (KpI.refl.put (by simp) hk)
end
def FS.fresh{cb:AI}{S:List It3}{kn:List Int}{B:List D}(H:FS sh dn sa pa wa ka ba aa da S ws kn B A st)(h:st cb=AE):cb∉ka::ba::aa::da::shL sh dn sa pa wa:=by
 intro z;simp only[AM,Ae,or_false]at z
 rcases z with rfl|rfl|rfl|rfl|rfl|rfl|rfl|rfl|rfl
 ·have:=H.k;rw[h]at this;cases this
 ·have:=H.b;rw[h]at this;cases this
 ·have:=H.a;rw[h]at this;cases this
 ·have:=H.d;rw[h]at this;cases this
 ·have:=H.K.A.ins;rw[h]at this;cases this
 ·have:=H.K.A.num;rw[h]at this;cases this
 ·have:=H.K.A.sto;rw[h]at this;cases this
 ·have:=H.K.A.par;rw[h]at this;cases this
 ·have:=H.K.W;rw[h]at this;cases this
def wl{Z:Sg}{tb:DS}{F:DEnds}{t:Nat}{env:i9}(h:tb {F with nx:=v5 (wpT Z (.bl AC)) tb F t,ct:=v5 (wpT Z (.bl AC)) tb F t,bk:=F.nx} env st):v5 (wpT Z (.bl AC)) tb F (t+1) env st:=⟨AC,rfl,h⟩
def cl6{S:List It3}(w:Wf S')(hp:S <+: S')(h:∀k∈ks,Has S k.d):u1 S' ks=u1 S ks:=Hk λk hk=>by rw[O7 w (h k hk) hp]
section
variable (T:PNo P G) 
include T
def b68(hnm:Cok P nm)(N:ap6 P G (n+1) sh dn sa pa wa nm)(hmd:Cok P md)(M:aq7 P G (n+1) sh dn sa pa wa md)(dj:(ka::ba::aa::da::shL sh dn sa pa wa).Nodup){F:DEnds}:∀(z:Nat)(p:Pg),p.parts<=z->p.kn 6->∀{Γ:List Kd}{k:Kd}{h:Int}{st0 st:Sto}{X:List AI}{S:List It3}{ws:List (Kd×Bool)}{kn:List Int}{B A:List D}{a ca:AI}{f:List AI}{x7 x8 x9 x10:Option D}{m:Nat},
  p.kind Γ=AA k->h<=1->Nd st0 X st h p a f->(∀y∈f,y∈R)->(∀y∈ca::da::fL sh dn sa pa wa ka ba aa,y∈X)->FS sh dn sa pa wa ka ba aa da S ws kn (B++[.ref a]) (A++[.ref ca]) st->st ca=AA (.lst [])->KnOk S ws Γ kn->S.length+256*p.parts<=900000->B.length+p.parts<100000->A.length+p.parts<100000->kn.length+p.parts<100000->ca∉ka::ba::aa::da::shL sh dn sa pa wa ->
  (∀S' ws' st' ks y7 y8 y9 y10,FS sh dn sa pa wa ka ba aa da S' ws' kn (B++[.ref a]) (A++[.ref ca]) st'->st' ca=AA (.lst (u1 S' ks))->ks.length=p.kids.length->(∀k∈ks,Has S' k.d)->p.kk Γ ks=AA k->S <+: S'->S'.length+256<=S.length+256*p.parts->WUp ws ws'->KpI R (ca::fL sh dn sa pa wa ka ba aa) st st'->v5 (wpT (Zg P G (n+1)) (.bl AC)) (f8 (Zg P G (n+1)) E3) F m [AA nd,AA (.ref ka),AA nm,AA md,AA (.ref ba),AA (.ref aa),AA (.ref da),y7,y8,y9,y10] st') ->
  v5 (wpT (Zg P G (n+1)) (.bl AC)) (f8 (Zg P G (n+1)) E3) F (m+2*(p.parts-1)) [AA nd,AA (.ref ka),AA nm,AA md,AA (.ref ba),AA (.ref aa),AA (.ref da),x7,x8,x9,x10] st:=by
 intro z
 induction z with
 |zero=>intro p hz;have:=Pg.parts_kids p;lia
 |succ z ih=>
  intro p hz hkn7 Γ k h st0 st X S ws kn B A a ca f x7 x8 x9 x10 m hk h1 nd0 hR hX H hc hkn hS hB hA hK hcl q;obtain⟨ks,kl,hkk,hkid⟩:=Pg.kind_inv hk;have hpk:=Pg.parts_kids p;have inner:∀(j i:Nat),i+j=p.kids.length->∀{S1:List It3}{ws1:List (Kd×Bool)}{st1:Sto}{y7 y8 y9 y10:Option D},FS sh dn sa pa wa ka ba aa da S1 ws1 kn (B++[.ref a]) (A++[.ref ca]) st1->st1 ca=AA (.lst (u1 S1 (ks.take i)))->(∀k∈ks.take i,Has S1 k.d)->S <+: S1->S1.length+256*((p.kids.drop i).map Pg.parts).sum+256<=S.length+256*p.parts->WUp ws ws1->KpI R (ca::fL sh dn sa pa wa ka ba aa) st st1->v5 (wpT (Zg P G (n+1)) (.bl AC)) (f8 (Zg P G (n+1)) E3) F (m+2*((p.kids.drop i).map Pg.parts).sum) [AA nd,AA (.ref ka),AA nm,AA md,AA (.ref ba),AA (.ref aa),AA (.ref da),y7,y8,y9,y10] st1:=by
   intro j
   induction j with
   |zero=>
    intro i hi S1 ws1 st1 y7 y8 y9 y10 H1 hc1 hh1 p1 l1 w1 K1;rw[List.drop_of_length_le (by lia)]at l1 ⊢;rw[DL (by lia)]at hc1 hh1;simp only[Cq,IJ,Nat.mul_zero,Jv]at l1 ⊢;exact q S1 ws1 st1 ks _ _ _ _ H1 hc1 kl hh1 hkk p1 l1 w1 K1
   |succ j ihj=>
    intro i hi S1 ws1 st1 y7 y8 y9 y10 H1 hc1 hh1 p1 l1 w1 K1;have hil:i<p.kids.length:=by lia
    obtain⟨c,hci⟩:∃c,p.kids[i]?=AA c:=⟨_,AL hil⟩;obtain⟨a0,Δ,hai,hC,hck⟩:=hkid i c hci;have hdr:p.kids.drop i=c::p.kids.drop (i+1):=by
     rw[Dp hil];rw[AL hil]at hci;cases hci;rfl
    rw[hdr]at l1 ⊢;simp only[Aa,Di]at l1 ⊢;have cpos:=Pg.parts_kids c;have hcm:c∈p.kids:=BE hci;have hcs:=Q3 Pg.parts hcm;have htl:(ks.take i).length=i:=by rw[DD];lia
    have n1:=nd0.kpi K1 (λy hy=>hX y (by simp only[AM]at hy ⊢;rcases hy with h|h;exact .inl h;exact .inr (.inr h)));obtain⟨hkX⟩:Nonempty (p.told 6):=⟨Pg.told_kn hkn7⟩;generalize hr:((p.kids.drop (i+1)).map Pg.parts).sum=r at l1 ⊢;rw[show m+2*(c.parts+r)=((m+2*r+1)+2*(c.parts-1))+1 by lia];refine wl ?_;cases n1 with
    |@mk _ _ _ la x w kd as fs e1 e2 e3 e4 e5 e6 e7 e8 e9=>
    obtain⟨b,hbi⟩:∃b,as[i]?=AA b:=⟨_,AL (by lia)⟩;obtain⟨fb,hfi⟩:∃b,fs[i]?=AA b:=⟨_,AL (by lia)⟩;have nb1:=e9 i c b fb hci hbi hfi;have hRb:∀y∈fb,y∈R:=λy hy=>hR y (Ao _ (CG.mpr ⟨fb,BE hfi,hy⟩));have hla:la∉ka::ba::aa::da::shL sh dn sa pa wa:=λz=>e4 (hX _ (by simp only[AM,Ae,or_false]at z ⊢;rcases z with z|z|z|z|z|z|z|z|z<;>simp[z]));refine b39 (R:=R) T hnm N dj (ks:=ks.take i) (Γ:=Γ) (Δ:=Δ) H1 hc1 hh1 e1 e2 h1 e3 (by rw[htl];exact hci) (by rw[htl];exact hbi) hkX (by rw[htl];exact hC) (hkn.up H1.K.A.wf p1 w1) (by lia) (by lia) (by lia) (by lia) hcl hla λS2 ws2 st2 kn2 cb v7 v8 v9 v10 H2 hcb hcb0 p2 l2 w2 k2 k3 k4 K2=>?_;rw[htl]at k4;have cbf:=H1.fresh hcb0;have hm01:=ba4 p i;have nb2:=(nb1.addX hcb0).kpi K2 (λy hy=>Ao _ (hX y (by simp only[AM]at hy ⊢;exact .inr (.inr hy))));refine ih c (by lia) (Pg.kn_kids p hkn7 c hcm) hck (by decide) nb2 hRb (λy hy=>by
     rcases AM.mp hy with rfl|hy
     ·simp
     ·exact Ao _ (hX y (Ao _ hy))) H2 hcb k2 (by lia) (by simp;lia) (by simp;lia) (by lia) cbf λS3 ws3 st3 ks3 u7 u8 u9 u10 H3 hc3 kl3 hh3 hkk3 p3 l3 w3 K3=>?_
    refine wl ?_;have nb3:=nb2.kpi K3 (λy hy=>by
     rcases AM.mp hy with rfl|hy
     ·simp
     ·exact Ao _ (hX y (by simp only[AM]at hy ⊢;exact .inr (.inr hy))))
    cases nb3 with
    |@mk _ _ _ lb xb wb kdb asb fsb b1 b2 b3 b4 b5 b6 b7 b8 b9=>
    refine ay2 (R:=R) T hmd M dj H3 hc3 hh3 b1 b2 (by decide) b3 (by lia) (Pg.told_kn (Pg.kn_kids p hkn7 c hcm)) hkk3 (k2.up H3.K.A.wf p3 w3) (by lia) (by simp only[AM,Ae,or_false,not_or]at cbf ⊢;simp[cbf]) (hRb b (by obtain⟨_,_,_,_,_,_,h,_⟩:=nb1.root;exact h)) λS4 ws4 st4 t7 t8 H4 g1 p4 l4 w4 K4=>?_;have K14:KpI R (ca::fL sh dn sa pa wa ka ba aa) st1 st4:=by
     refine KpI.drop (p:=cb) ?_ hcb0;exact((K2.more (λd hd=>by simp only[AM]at hd ⊢;exact .inr (.inr hd))).trans (K3.more (λd hd=>by simp only[AM]at hd ⊢;rcases hd with h|h;exact .inl h;exact .inr (.inr h)))).trans (K4.more (λd hd=>by simp only[AM]at hd ⊢;exact .inr (.inr hd)))
    have hcaf:ca∉fL sh dn sa pa wa ka ba aa:=by simp only[AM,Ae,or_false,not_or]at hcl ⊢;simp[hcl]
    have hcab:ca≠cb:=j7 hc1 hcb0;have hca4:st4 ca=AA (.lst (u1 S1 (ks.take i))):=K4.lst (K3.lst (K2.lst hc1 hcaf) (by simp only[AM,not_or];simp only[AM,not_or]at hcaf;exact⟨hcab,hcaf⟩)) hcaf;obtain⟨kd4,_,ha4⟩:=K14.i a p la x h w kd e1 e2;have hp14:S1 <+: S4:=p2.trans (p3.trans p4);refine ch4 (R:=R) T dj (p:=p) (kn0:=kn) H4 hca4 (by have:=Z9 Pg.parts_kids p.kids;simp only[u1,AV,htl];lia) ha4 hcl k3 (by rw[k4];simp only[u1,AV,htl]) λst5 H5 hc5 K5=>?_;have ek:ks.take (i+1)=ks.take i++[a0]:=by rw[List.take_succ,hai];rfl
    rw[<-hr];refine ihj (i+1) (by lia) H5 ?_ ?_ (p1.trans hp14) (by rw[hr];lia) (w1.trans (w2.trans (w3.trans w4))) (K1.trans (K14.trans K5))
    ·rw[hc5,ek];have:u1 S4 (ks.take i++[a0])=u1 S4 (ks.take i)++[.int (nb S4 a0.d:Nat)]:=by simp[u1]
     rw[this,cl6 H4.K.A.wf hp14 hh1]
    ·rw[ek];intro y hy
     rcases Bc.mp hy with hy|hy
     ·exact(hh1 y hy).mono hp14
     ·simp only[Bi]at hy;subst hy;exact g1
  have:=inner p.kids.length 0 (by lia) (y7:=x7) (y8:=x8) (y9:=x9) (y10:=x10) H (by simpa[u1]using hc) (by simp) (CD _) (by simp only[Jx];lia) rfl KpI.refl;simp only[Jx]at this;rw[show p.parts-1=(p.kids.map Pg.parts).sum by lia];exact this
end
def KA.fresh{x:AI}{S:List It3}(K:KA sh dn sa pa wa S ws st)(h:st x=AE):x∉shL sh dn sa pa wa:=by
 intro z;simp only[AM,Ae,or_false]at z
 rcases z with rfl|rfl|rfl|rfl|rfl
 ·have:=K.A.ins;rw[h]at this;cases this
 ·have:=K.A.num;rw[h]at this;cases this
 ·have:=K.A.sto;rw[h]at this;cases this
 ·have:=K.A.par;rw[h]at this;cases this
 ·have:=K.W;rw[h]at this;cases this
def ShD.all(h:ShD sh dn sa pa wa):(shL sh dn sa pa wa).Nodup:=by
 have h1:=h.nd;have h2:=h.wd;have h3:=h.ws;simp only[BM,AM,Ae,or_false,not_or,Iv,and_true,not_false_eq_true]at h1 h2 ⊢;obtain⟨⟨a1,a2,a3⟩,⟨a4,a5⟩,a6⟩:=h1;obtain⟨b1,b2,b3⟩:=h2;exact⟨⟨a1,a2,a3,Av h3⟩,⟨a4,a5,Av b1⟩,⟨a6,Av b2⟩,Av b3⟩
section
variable (T:PNo P G) {S:List It3} 
include T
def b14(hnm:Cok P nm)(N:ap6 P G (n+1) sh dn sa pa wa nm)(hmd:Cok P md)(M:aq7 P G (n+1) sh dn sa pa wa md){p:Pg}{k:Kd}{st0:Sto}{kn:List Int}(hkt:G.cls "!kt"≠[])(hk:p.kind Γ=AA k)(h7:p.kn 6)(nd:Nd st0 X st 0 p a f)(K:KA sh dn sa pa wa S ws st)(hka:st ka=AA (.lst (kn.map D.int)))(hkn:KnOk S ws Γ kn)(hS:S.length+256*p.parts<=900000)(hkl:kn.length<=50000)(hks:ka∉shL sh dn sa pa wa)(hX:∀y∈ka::shL sh dn sa pa wa,y∈X)
  (q:∀S' ws' st',Has S' k.d->KA sh dn sa pa wa S' ws' st'->KpI f (ka::shL sh dn sa pa wa) st st'->Q (.int (nb S' k.d:Nat)) st'):sem P G (n+2) "folded" [.ref a,.ref ka,nm,md] st Q:=by
 refine g9 T.fol rfl [AA (.ref a),AA (.ref ka),AA nm,AA md,AE,AE,AE,AE,AE,AE,AE] rfl ?_;unfold L6;walk_at "es";intro ba hba;walk_at "es";intro ca hca;intro aa haa;walk_at "es";refine⟨hkt,λda hda=>?_⟩;have ba0:st ba=AE:=hba;have ca0:st ca=AE:=G5 hca;have aa0:st aa=AE:=G5 (G5 haa);have da0:st da=AE:=G5 (G5 (G5 hda));have cb:ba≠ca:=j7 c9 hca;have ab:ba≠aa:=j7 (c8 c9 cb) haa;have ac:ca≠aa:=j7 c9 haa;have db:ba≠da:=j7 (c8 (c8 c9 cb) ab) hda;have dc:ca≠da:=j7 (c8 c9 ac) hda;have dA:aa≠da:=j7 c9 hda;have kb:ka≠ba:=j7 hka ba0;have kc:ka≠ca:=j7 hka ca0;have kA:ka≠aa:=j7 hka aa0;have kD:ka≠da:=j7 hka da0;have I4:KpI f (ka::shL sh dn sa pa wa) st (b0 (b0 (b0 (b0 st ba (.lst [.ref a])) ca (.lst [])) aa (.lst [.ref ca])) da (.dtt [])):=((((KpI.refl.new hba).new hca).new haa).new hda);have K4:Kp [] st (b0 (b0 (b0 (b0 st ba (.lst [.ref a])) ca (.lst [])) aa (.lst [.ref ca])) da (.dtt [])):=((((Kp.refl.new hba).new hca).new haa).new hda);have nd4:Nd st0 (da::aa::ca::ba::X) (b0 (b0 (b0 (b0 st ba (.lst [.ref a])) ca (.lst [])) aa (.lst [.ref ca])) da (.dtt [])) 0 p a f:=(((nd.addX ba0).addX ca0).addX aa0 |>.addX da0).kpi I4 (λy hy=>by simp[hX y hy]);have H4:FS sh dn sa pa wa ka ba aa da S ws kn ([]++[.ref a]) ([]++[.ref ca]) (b0 (b0 (b0 (b0 st ba (.lst [.ref a])) ca (.lst [])) aa (.lst [.ref ca])) da (.dtt [])):=⟨K.keep K4,K4.at' hka (by simp),c8 (c8 (c8 c9 cb) ab) db,c8 c9 dA,c9⟩;have hc4:(b0 (b0 (b0 (b0 st ba (.lst [.ref a])) ca (.lst [])) aa (.lst [.ref ca])) da (.dtt [])) ca=AA (.lst []):=c8 (c8 c9 ac) dc;have dj:(ka::ba::aa::da::shL sh dn sa pa wa).Nodup:=by
  refine BM.mpr ⟨?_,BM.mpr ⟨?_,BM.mpr ⟨?_,BM.mpr ⟨K.fresh da0,K.D0.all⟩⟩⟩⟩
  ·simp only[AM,not_or];simp only[AM,not_or]at hks;exact⟨kb,kA,kD,hks⟩
  ·have:=K.fresh ba0;simp only[AM,not_or]at this ⊢;exact⟨ab,db,this⟩
  ·have:=K.fresh aa0;simp only[AM,not_or]at this ⊢;exact⟨dA,this⟩
 have hcl:ca∉ka::ba::aa::da::shL sh dn sa pa wa:=by
  have:=K.fresh ca0;simp only[AM,not_or]at this ⊢;exact⟨Av kc,Av cb,ac,dc,this⟩
 have hpk:=Pg.parts_kids p;walk_at "es";refine⟨1+2*(p.parts-1),?_⟩;revert I4 K4 nd4 H4 hc4;generalize b0 (b0 (b0 (b0 st ba (.lst [.ref a])) ca (.lst [])) aa (.lst [.ref ca])) da (.dtt [])=st4;intro I4 K4 nd4 H4 hc4;show v5 (wpT (Zg P G (n+1)) (.bl AC)) (f8 (Zg P G (n+1)) E3) _ _ _ _;have hX4:∀y∈ca::da::fL sh dn sa pa wa ka ba aa,y∈da::aa::ca::ba::X:=by
  intro y hy
  rcases AM.mp hy with rfl|hy
  ·simp
  rcases AM.mp hy with rfl|hy
  ·simp
  rcases AM.mp hy with rfl|hy
  ·simp[hX y (by simp)]
  rcases AM.mp hy with rfl|hy
  ·simp
  rcases AM.mp hy with rfl|hy
  ·simp
  ·simp[hX y (Ao _ hy)]
 refine b68 (R:=f) T hnm N hmd M dj p.parts p (AU _) h7 hk (by decide) nd4 (λy hy=>hy) hX4 H4 hc4 hkn hS (by simp;lia) (by simp;lia) (by lia) hcl λS1 ws1 st1 ks y7 y8 y9 y10 H1 hc1 kl hh1 hkk p1 l1 w1 K1=>?_;refine wl ?_;have nd1:=nd4.kpi K1 (λy hy=>hX4 y (by simp only[AM]at hy ⊢;rcases hy with h|h;exact .inl h;exact .inr (.inr h)));have har:a∈f:=by obtain⟨_,_,_,_,_,_,h,_⟩:=nd4.root;exact h
 cases nd1 with
 |@mk _ _ _ lb xb wb kdb asb fsb b1 b2 b3 b4 b5 b6 b7 b8 b9=>
 refine ay2 (R:=a::fsb.flatten) T hmd M dj H1 hc1 hh1 b1 b2 (by decide) b3 (by lia) (Pg.told_kn h7) hkk (hkn.up H1.K.A.wf p1 w1) (by lia) (by simp only[AM,not_or]at hcl ⊢;exact hcl.2.2.2.2) har λS2 ws2 st2 t7 t8 H2 g1 p2 l2 w2 K2=>?_;refine b85 T H2 (c0 (q S2 ws2 st2 g1 H2.K ?_));refine KpI.drop (p:=ba) (KpI.drop (p:=aa) (KpI.drop (p:=ca) ?_ ca0) aa0) ba0;refine((I4.more λy hy=>?_).trans (K1.more λy hy=>?_)).trans (K2.more λy hy=>?_)
 ·simp only[AM]at hy ⊢;exact .inr (.inr (.inr hy))
 ·simp only[AM]at hy ⊢
  rcases hy with h|h|h|h|h
  ·exact .inl h
  ·exact .inr (.inr (.inr (.inl h)))
  ·exact .inr (.inr (.inl h))
  ·exact .inr (.inl h)
  ·exact .inr (.inr (.inr (.inr h)))
 ·simp only[AM]at hy ⊢
  rcases hy with h|h|h|h
  ·exact .inr (.inr (.inr (.inl h)))
  ·exact .inr (.inr (.inl h))
  ·exact .inr (.inl h)
  ·exact .inr (.inr (.inr (.inr h)))
end
def Nd.fresh{st0:Sto}(n:Nd st0 X st h p a f):∀b∈f,st0 b=AE:=by
 induction n with
 |@mk h p a la x w kd as fs h1 h2 h3 h4 h5 h6 h7 h8 hk ih=>
  intro b hb
  rcases AM.mp hb with rfl|hb
  ·exact h6
  ·obtain⟨f,hf,hb⟩:=CG.mp hb;obtain⟨i,hi,rfl⟩:=Ej.mp hf;exact ih i p.kids[i] as[i] fs[i] (AL (by lia)) (AL (by lia)) (AL hi) b hb
section
variable (T:PNo P G) {S:List It3} 
include T
def b54(hn:19<=n){k:Kd}{st0:Sto}{kn:List Int}(hk:p.kind Γ=AA k)(h7:p.kn 6)(nd:Nd st0 X st 0 p a f)(K:KA sh dn sa pa wa S ws st)(hka:st ka=AA (.lst (kn.map D.int)))(hkn:KnOk S ws Γ kn)(hS:S.length+256*p.parts<=900000)(hkl:kn.length<=50000)(hks:ka∉shL sh dn sa pa wa)(hX:∀y∈ka::shL sh dn sa pa wa,y∈X)
  (q:∀S' ws' st',Has S' k.d->KA sh dn sa pa wa S' ws' st'->KpI f (ka::shL sh dn sa pa wa) st st'->Q (.int (nb S' k.d:Nat)) st'):sem P G n "kind_of_node" [.ref a,.ref ka,.ref sh] st Q:=by
 obtain⟨n,rfl⟩:∃m,n=m+3:=⟨n-3,by lia⟩;have hc:∀f∈([("program":Str),("inside":Str),("number":Str),("holders":Str),("ways":Str),("used":Str),("kind":Str)]:List Str),f∈G.cls "Node":=λf hf=>by rw[T.ncl];exact hf
 refine g9 T.kon rfl [AA (.ref a),AA (.ref ka),AA (.ref sh),AE,AE,AE,AE] rfl ?_;unfold af3;walk_at "es";walk_at "es";walk_at "es";refine⟨by rw[T.fol];rfl,b14 T (show Cok P (.clo _ _ _ _) from trivial) ?_ (show Cok P (.clo _ _ _ _) from trivial) ?_ T.kt hk h7 nd K hka hkn hS hkl hks hX λS' ws' st' h1 h2 h3=>c0 (q S' ws' st' h1 h2 h3)⟩
 ·intro st S ws ca p i a ks Q K ht hm hk hc hh hS q;refine aa5 rfl [AA p.d,AA (.ref ca),AA (.int i),AA (.ref sh)] rfl ?_;walk_at "es";exact⟨by rw[T.nnm];rfl,b06 T.toPKo (by lia) K ht hm hk hc hh hS λS' ws' st' h1 h2 h3 h4 h5 h6=>c0 (q S' ws' st' h1 h2 h3 h4 h5 h6)⟩
 ·intro st S ws ca ka b la p Γ k ks kn x h w kd Q K ht hk hca hh hka hkn hcl hS hb hkd q;refine aa5 rfl [AA (.ref b),AA (.ref ca),AA (.ref ka),AA (.ref sh),AE] rfl ?_;walk_at "es";refine⟨by rw[T.kbp];rfl,b,"Node",_,p.d,rfl,hb,hc _ (by simp),rfl,?_⟩;refine co6 T.toPKo (by lia) K ht hk hca hh hka hkn hcl hS λS' ws' st' h1 h2 h3 h4 h5 h6=>?_;have hb':=h6.at' hb (K.noNode hb);have fin:∀kd',B4 kd'->Q (.int (nb S' k.d:Nat)) (b0 st' b (ndO p la x h w kd')):=λkd' hk'=>q S' ws' _ kd' h1 h2 h3 (h4.keepL (Kp.refl.put (L:=[b]) (by simp)) (by intro y hy;simp only[Bi]at hy;subst hy;exact K.noNode hb)) h5 ((h6.more (by intro y hy;exact Ao _ hy)).put (by simp)) c9 hk';walk_at "es";refine⟨b,"Node",_,kd,rfl,hb',hc _ (by simp),rfl,?_⟩;have tail:∀kd',B4 kd'->∃p c fs,D.ref b=D.ref p∧st' p=AA (.ins c fs)∧("kind":Str)∈G.cls c∧fs.length<1000∧f8 (Zg P G n) (.cons (.ret (.v 4)) .nil) (j8 Q) [AA (.ref b),AA (.ref ca),AA (.ref ka),AA (.ref sh),AA (.int (nb S' k.d:Nat))] (b0 st' p (.ins c (j9 "kind" kd' fs))):=λkd' hk'=>⟨b,"Node",_,rfl,hb',hc _ (by simp),by simp[ndF],by
   rw[b72];walk_at "es";exact c0 (fin kd' hk')⟩
  rcases hkd with rfl|⟨j,rfl⟩
  ·exact .inl ⟨rfl,tail _ (.inr ⟨_,rfl⟩)⟩
  ·refine .inr ⟨nofun,b,"Node",_,.int j,rfl,hb',hc _ (by simp),rfl,?_⟩;walk_at "ek"
   split
   ·exact tail _ (.inr ⟨_,rfl⟩)
   ·exact tail _ (.inr ⟨_,rfl⟩)
def b23(hn:20<=n){k:Kd}{kn:List Int}(hp:p.parts<=2000)(hk:p.kind Γ=AA k)(h7:p.kn 6)(K:KA sh dn sa pa wa S ws st)(hka:st ka=AA (.lst (kn.map D.int)))(hkn:KnOk S ws Γ kn)(hS:S.length+256*p.parts<=900000)(hkl:kn.length<=50000)(hks:ka∉shL sh dn sa pa wa)
  (q:∀S' ws' st',Has S' k.d->KA sh dn sa pa wa S' ws' st'->Kp (ka::shL sh dn sa pa wa) st st'->Q (.int (nb S' k.d:Nat)) st'):sem P G n "shelved_kind" [p.d,.ref ka,.ref sh] st Q:=by
 obtain⟨n,rfl⟩:∃m,n=m+1:=⟨n-1,by lia⟩;refine g9 T.shk rfl [AA p.d,AA (.ref ka),AA (.ref sh)] rfl ?_;unfold ae7;walk_at "es";refine⟨by rw[T.kon];rfl,by rw[T.nod];rfl,?_⟩;walk_at "ek";intro na hna;have K0:Kp [] st (b0 st na (.lst [])):=Kp.refl.new hna;have KA0:=K.keep K0;have hx:∀x∈ka::shL sh dn sa pa wa,∃o,b0 st na (.lst []) x=AA o:=by
  intro x hx;simp only[AM,Ae,or_false]at hx
  rcases hx with rfl|rfl|rfl|rfl|rfl|rfl
  ·exact⟨_,j6 hka hna⟩
  ·exact⟨_,KA0.A.ins⟩
  ·exact⟨_,KA0.A.num⟩
  ·exact⟨_,KA0.A.sto⟩
  ·exact⟨_,KA0.A.par⟩
  ·exact⟨_,KA0.W⟩
 refine b76 T (X:=ka::shL sh dn sa pa wa) (by lia) hp c9 hx λa f st' nd K1=>?_;have hnk:ka≠na:=j7 hka hna;refine b54 T (by lia) hk h7 nd (KA0.keepL K1 (by intro y hy;simp only[Bi]at hy;subst hy;exact K.fresh hna)) (K1.at' (j6 hka hna) (by simpa using hnk)) hkn hS hkl hks (λy hy=>hy) λS' ws' st2 h1 h2 h3=>c0 (q S' ws' st2 h1 h2 λb o nb e=>?_);have e1:=j6 (u:=.lst []) e hna;exact h3.k b o nb (λz=>by rw[nd.fresh b z]at e1;cases e1) (K1.at' e1 (by simpa using j7 e hna))
end
def En.app{S:List It3}{l:List (Kd×Bool)}{e:Int}{k:Kd}(h:En S ws e k):En S (ws++l) e k:=by
 rcases h with h|⟨j,b,e,h⟩
 ·exact .inl h
 ·exact .inr ⟨j,b,e,by rw[Ad (AR.mp h).1];exact h⟩
theorem KnOk.app{S:List It3}{l:List (Kd×Bool)}{kn:List Int}(h:KnOk S ws Γ kn):KnOk S (ws++l) Γ kn:=
 ⟨h.len,λm k hk=>let⟨e,h1,h2⟩:=h.at' m k hk;⟨e,h1,h2.app⟩⟩
section
variable (T:PNo P G) {S:List It3}
include T
def by4(hΓ:∀k∈Γ,k.nest<=6)(hl:Γ.length<2000)(K:KA sh dn sa pa wa S [] st)
  (q:∀ws' kn ka st',KA sh dn sa pa wa S ws' st'->st ka=AE->st' ka=AA (.lst (kn.map D.int))->KnOk S ws' Γ kn->kn.length=Γ.length->Kp [wa] st st'->Q (.ref ka) st'):sem P G (n+2) "shelved_names" [.tup (Γ.map Kd.d),.ref sh] st Q:=by
 refine g9 T.shn rfl [AA (.tup (Γ.map Kd.d)),AA (.ref sh)] rfl ?_;unfold ae6;walk_at "es";refine⟨by simp;lia,?_⟩;refine N5 (λl acc env' st'=>∃(pre suf:List Kd)(x:Option D)(kn:List Int),Γ.reverse=pre++suf∧l=suf.map Kd.d∧acc=kn.map D.int∧env'=[AA (.ref sh),x]∧KA sh dn sa pa wa S (pre.map λk=>(k,AG)) st'∧KnOk S (pre.map λk=>(k,AG)) pre.reverse kn∧Kp [wa] st st') ?_ ?_ _ _ _ _ ⟨[],Γ.reverse,AE,[],rfl,by rw[Ii],rfl,rfl,K,⟨rfl,λm k hk=>(by simp at hk)⟩,Kp.refl⟩
 ·rintro acc env' st' ⟨pre,suf,x,kn,e1,e2,rfl,rfl,K1,k1,K2⟩;have es:suf=[]:=by simpa using e2.symm
  subst es;rw[BP]at e1;refine⟨trivial,λka hka=>?_⟩;have eg:pre.reverse=Γ:=by rw[<-e1,HX]
  rw[eg]at k1;have hka0:st ka=AE:=by
   cases e:st ka with
   |none=>rfl
   |some o=>
    by_cases z:ka=wa
    ·have:=K1.W;rw[<-z,hka]at this;cases this
    ·rw[K2.at' e (by simpa using z)]at hka;cases hka
  exact c0 (q _ kn ka _ (K1.keep (Kp.refl.new hka)) hka0 c9 k1 k1.len (K2.new hka))
 ·rintro d ds acc env' st' ih ⟨pre,suf,x,kn,e1,e2,rfl,rfl,K1,k1,K2⟩;refine⟨trivial,?_⟩;cases suf with
  |nil=>simp at e2
  |cons k suf=>
   simp only[Aa,Ah]at e2;obtain⟨rfl,rfl⟩:=e2;have hkm:k∈Γ:=by
    have:k∈Γ.reverse:=by rw[e1];simp
    simpa using this
   have hpl:pre.length<2000:=by
    have:=congrArg Fu e1;simp at this;lia
   refine⟨.ref sh,rfl,sh,"Shelf",_,rfl,K1.A.ins,rfl,by rw[T.ptb];rfl,k.d,rfl,?_⟩;refine ca3 T.toPKd K1 (hΓ k hkm) (by simpa using hpl) λst2 K3 K4=>?_;refine ih _ _ _ ⟨pre++[k],suf,_,kn++[-(((pre.map λk=>(k,AG)).length:Int)+1)],by rw[e1];simp,rfl,by simp,rfl,by simpa using K3,?_,K2.trans K4⟩;rw[Hl,Ag];exact(k1.app).cons (.inr ⟨pre.length,AG,by simp,by simp⟩)
def P7(hn:24<=n){k:Kd}(hp:p.parts<=2000)(hΓ:∀k∈Γ,k.nest<=6)(hl:Γ.length<2000)(hk:p.kind Γ=AA k)(h7:p.kn 6)(q:∀st',Kp [] st st'->Q k.d st'):sem P G n "kind_of" [p.d,.tup (Γ.map Kd.d)] st Q:=by
 obtain⟨n,rfl⟩:∃m,n=m+3:=⟨n-3,by lia⟩;refine g9 T.ko rfl [AA p.d,AA (.tup (Γ.map Kd.d)),AE] rfl ?_;unfold ai1;walk_at "es";refine⟨by show(AC&&_)=AC;rw[T.init];rfl,λsh hsh=>?_⟩;refine bp5 (n:=n+1) ?_;refine b41 T.toPSh hsh λdn sa pa wa s1 A1 hd hfr hw1 hw2 hw3 K1=>⟨rfl,?_⟩;have KA1:KA sh dn sa pa wa [] [] s1:=⟨A1,⟨hd,hw1,hw2⟩,hw3,by simp,by simp,by simp⟩;walk_at "es";refine⟨sh,"Shelf",_,rfl,A1.ins,rfl,by rw[T.tup];rfl,by rw[T.shk];rfl,by rw[T.shn];rfl,?_⟩;refine by4 T (n:=n) hΓ hl KA1 λws2 kn ka s2 KA2 hka0 hka hkn hkl K2=>?_;have hks:=KA1.fresh hka0;refine b23 T (by lia) (by lia) hk h7 KA2 hka hkn (by simp;lia) (by lia) hks λS3 ws3 s3 h3 KA3 K3=>?_;refine b61 T.toPSh KA3.A h3 (c0 (q s3 λb o _ e=>?_));have e1:=K1.at' e (by simp);have nf:b∉shL sh dn sa pa wa:=λz=>by rw[hfr b z]at e;cases e
 have e2:=K2.at' e1 (by simp only[Bi];exact λz=>nf (by simp[z]));exact K3.at' e2 (by simp only[AM,not_or];exact⟨j7 e1 hka0,by simpa using nf⟩)
end
theorem aw2:∀(l:List D)(i j:Nat),y0 (o7 i l) (.inl ((i+j:Nat):Int))=l[j]?
 |[],i,j=>rfl
 |x::r,i,j=>by
  unfold y0 o7;rw[Bg];cases j with
  |zero=>simp
  |succ j=>
   have h:¬((.inl (i:Int):Key)=.inl ((i+(j+1):Nat):Int)):=λz=>by injection z with z;lia
   simp only[h,decide_false];have:=aw2 r (i+1) j;unfold y0 at this;rw[show i+1+j=i+(j+1) by lia]at this;rw[this];simp
def ck7{k:Kd}(h:Γ[i]?=AA k):y0 (o7 0 (Γ.map Kd.d)) (.inl (i:Int))=AA k.d:=by
 have:=aw2 (Γ.map Kd.d) 0 i;rw[Ik]at this;rw[this,Am,h];rfl
def C2{a:Kd}(h1:∀y∈Γ,y.nest<=m)(h2:a.nest<=m):∀y∈a::Γ,y.nest<=m:=λy hy=>by
 rcases AM.mp hy with rfl|hy
 ·exact h2
 ·exact h1 y hy
def ai9{k:Kd}(h:Kn Γ p k):(∀y∈Γ,y.nest<=m)->p.kn m->p.nl m Γ->k.nest<=m+p.hgt:=by
 induction h with
 |name h=>intro hΓ _ _;exact BF (hΓ _ (BE h)) (Fw _ _)
 |star=>intros;exact BU _
 |pair _ _ i j=>intro hΓ hk hn;have:=i hΓ hk.1 hn.1;have:=j hΓ hk.2 hn.2;simp only[Kd.nest,Pg.hgt];lia
 |first _ i=>intro hΓ hk hn;have:=i hΓ hk hn;simp only[Kd.nest,Pg.hgt]at *;lia
 |second _ i=>intro hΓ hk hn;have:=i hΓ hk hn;simp only[Kd.nest,Pg.hgt]at *;lia
 |left _ i=>intro hΓ hk hn;have:=i hΓ hk.2 hn;have:=hk.1;simp only[Kd.nest,Pg.hgt];lia
 |right _ i=>intro hΓ hk hn;have:=i hΓ hk.2 hn;have:=hk.1;simp only[Kd.nest,Pg.hgt];lia
 |case h1 _ _ i j l=>intro hΓ hk hn;have hh:=hn.2 _ _ h1.kind;have:=j (C2 hΓ hh.1.1) hk.2.1 hh.2.1;simp only[Pg.hgt];lia
 |way _ i=>intro hΓ hk hn;have:=i (C2 hΓ hk.1) hk.2 hn;have:=hk.1;simp only[Kd.nest,Pg.hgt];lia
 |give _ _ i j=>intro hΓ hk hn;have:=i hΓ hk.1 hn.1;simp only[Kd.nest,Pg.hgt]at *;lia
 |lets h1 _ i j=>intro hΓ hk hn;have hh:=hn.2 _ h1.kind;have:=j (C2 hΓ hh.1) hk.2 hh.2;simp only[Pg.hgt];lia
 |never _ i=>intro hΓ hk hn;exact BF hk.1 (Fw _ _)
def ab8(k:Kd):k.d≠.non:=by cases k<;>exact nofun
structure Fit(p:Pg)(Γ:List Kd)(k:Kd):Prop where
 kind:Kn Γ p k
 hΓ:∀y∈Γ,y.nest<=6
 kn:p.kn 6
 nl:p.nl 6 Γ
theorem Fit.nest{k:Kd}(f:Fit p Γ k):k.nest<=6+p.hgt:=ai9 f.kind f.hΓ f.kn f.nl
noncomputable def Ss.tl:Ss->Ss
 |.nil=>.nil
 |.cons _ r=>r
section
variable (B:PB P) (hk:P "_law_kind_of"=AA E6) (hc:P "_law_kind_of_case"=AA U2)
include B hk hc
def an4:∀(h:Nat)(p:Pg){Γ:List Kd}{k:Kd}{n:Nat}{st:Sto}{Q:DK},p.hgt<=h->h<=100->2*h+3<=n->Fit p Γ k->Γ.length+h<=900->(∀st',Kp [] st st'->Q k.d st')->sem P G n "_law_kind_of" [p.d,.tup (Γ.map Kd.d)] st Q:=by
 intro h
 induction h with
 |zero=>intro p Γ k n st Q hp;cases p<;>simp only[Pg.hgt]at hp<;>lia
 |succ h ih=>
  intro p Γ k n st Q hp hh hn F hl q;obtain⟨n,rfl⟩:∃m,n=m+2:=⟨n-2,by lia⟩;refine g9 hk rfl [AA p.d,AA (.tup (Γ.map Kd.d)),AE,AE,AE,AE] rfl ?_;have pr:∀{w:String}{r:List D}{t:Pg}{ts:List Pg}{a:Kd},p.d=.tup (.str w::r)->p.kids=t::ts->w≠"name"->w≠"star"->w≠"way"->Fit t Γ a->t.hgt<=h->(∀s1,Kp [] st s1->f8 (Zg P G (n+1)) E6.body.tl.tl.tl.tl.tl.tl (j8 Q) [AA p.d,AA (.tup (Γ.map Kd.d)),AA (.str w),AE,AA a.d,AE] s1)->f8 (Zg P G (n+1)) E6.body (j8 Q) [AA p.d,AA (.tup (Γ.map Kd.d)),AE,AE,AE,AE] st:=by
   intro w r t ts a e1 e2 w1 w2 w3 F1 ht q1;have li:∀{Q:DK},Q (.tup (p.kids.map Pg.d)) st->sem P G (n+1) "_law_inner" [p.d] st Q:=λh=>ai0 B p h;rw[e1,e2]at li;rw[e1]at q1 ⊢;unfold E6;walk_at "es";refine sk1 rfl w1 (sk1 rfl w2 (sk1 rfl w3 ?_));walk_at "es";refine⟨by rw[hk];rfl,by rw[B.inner];rfl,li ?_⟩;simp only[Aa];walk_at "ek";exact ih t ht (by lia) (by lia) F1 (by lia) λs1 K1=>skN rfl (ab8 _) (q1 s1 K1)
  obtain⟨k1,k2,k3,k4⟩:=F;cases k1
  case name m k1=>
   unfold E6;simp only[Pg.d];walk_at "es";walk_at "es";walk_at "es";refine⟨by rw[AV];lia,λa ha=>⟨⟨_,c9⟩,⟨_,c9,?_⟩⟩⟩;rw[ck7 k1];exact c0 (q _ (Kp.refl.new ha))
  case star=>
   unfold E6;simp only[Pg.d];walk_at "es";refine sk1 rfl (by decide) ?_;walk_at "es";walk_at "es";exact c0 (q _ Kp.refl)
  case way t b a h1=>
   unfold E6;simp only[Pg.hgt]at hp;simp only[Pg.d];walk_at "es"
   iterate 2 refine sk1 rfl (by decide) ?_
   walk_at "es";walk_at "es";rw[G8];refine⟨by rw[hk];rfl,J6 (by simp only[AV];lia),ih t (by lia) (by lia) (by lia) ⟨h1,C2 k2 k3.1,k3.2,k4⟩ (by simp only[AW];lia) λs1 K1=>?_⟩;walk_at "es";exact λc hc=>.inr ⟨ab8 _,c0 (q _ (K1.new hc))⟩
  case case t u v a b h1 h2 h3=>
   simp only[Pg.hgt]at hp;refine pr rfl rfl (by decide) (by decide) (by decide) ⟨h1,k2,k3.1,k4.1⟩ (by lia) λs1 K1=>?_;change f8 _ (.cons _ _) _ _ _;simp only[Pg.d];walk_at "es";walk_at "es";refine⟨by rw[hc];rfl,?_⟩;obtain⟨⟨na,nb⟩,l2,l3⟩:=k4.2 a b h1.kind;refine g9 hc rfl [AA (Pg.case t u v).d,AA (Kd.eith a b).d,AA (.tup (Γ.map Kd.d)),AE,AE] rfl ?_;unfold U2;simp only[Pg.d,Kd.d];walk_at "es";walk_at "es";rw[G8];refine⟨by rw[hk];rfl,J6 (by simp only[AV];lia),ih u (by lia) (by lia) (by lia) ⟨h2,C2 k2 na,k3.2.1,l2⟩ (by simp only[AW];lia) λs2 K2=>?_⟩;walk_at "es";rw[G8];refine⟨by rw[hk];rfl,J6 (by simp only[AV];lia),ih v (by lia) (by lia) (by lia) ⟨h3,C2 k2 nb,k3.2.2,l3⟩ (by simp only[AW];lia) λs3 K3=>?_⟩;walk_at "es";have nk:=ai9 h2 (C2 k2 na) k3.2.1 l2;intro x hx;rw[W6,E9];refine⟨t9 _,t9 _,BF (Dr _ _) (by rw[z9];lia),?_⟩;simp only[decide_true];walk_at "ek";exact c0 (c0 (q _ (((K1.trans K2).trans K3).new hx)))
  case lets t u a h1 h2=>
   simp only[Pg.hgt]at hp;refine pr rfl rfl (by decide) (by decide) (by decide) ⟨h1,k2,k3.1,k4.1⟩ (by lia) λs1 K1=>?_;change f8 _ (.cons _ _) _ _ _;simp only[Pg.d];refine sk1 rfl (by decide) ?_;walk_at "es";obtain⟨na,l2⟩:=k4.2 a h1.kind;walk_at "es";rw[G8];exact⟨by rw[hk];rfl,J6 (by simp only[AV];lia),ih u (by lia) (by lia) (by lia) ⟨h2,C2 k2 na,k3.2,l2⟩ (by simp only[AW];lia) λs2 K2=>c0 (q _ (K1.trans K2))⟩
  case never t h1=>
   simp only[Pg.hgt]at hp;refine pr rfl rfl (by decide) (by decide) (by decide) ⟨h1,k2,k3.2,k4⟩ (by lia) λs1 K1=>?_;change f8 _ (.cons _ _) _ _ _;simp only[Pg.d]
   iterate 2 refine sk1 rfl (by decide) ?_
   walk_at "es";walk_at "es";intro x hx;rw[show(D.tup [.str "none"])=Kd.non.d from rfl,W6,E9];refine⟨t9 _,t9 _,by decide,?_⟩;simp only[decide_true];walk_at "ek";exact c0 (q _ (K1.new hx))
  case left t a b h1=>
   simp only[Pg.hgt]at hp;refine pr rfl rfl (by decide) (by decide) (by decide) ⟨h1,k2,k3.2,k4⟩ (by lia) λs1 K1=>?_;change f8 _ (.cons _ _) _ _ _;simp only[Pg.d]
   iterate 3 refine sk1 rfl (by decide) ?_
   walk_at "es";walk_at "es";exact c0 (q _ K1)
  case right t a b h1=>
   simp only[Pg.hgt]at hp;refine pr rfl rfl (by decide) (by decide) (by decide) ⟨h1,k2,k3.2,k4⟩ (by lia) λs1 K1=>?_;change f8 _ (.cons _ _) _ _ _;simp only[Pg.d]
   iterate 4 refine sk1 rfl (by decide) ?_
   walk_at "es";walk_at "es";exact c0 (q _ K1)
  case first t b h1=>
   simp only[Pg.hgt]at hp;refine pr rfl rfl (by decide) (by decide) (by decide) ⟨h1,k2,k3,k4⟩ (by lia) λs1 K1=>?_;change f8 _ (.cons _ _) _ _ _;simp only[Pg.d]
   iterate 5 refine sk1 rfl (by decide) ?_
   walk_at "es";walk_at "es";simp only[Kd.d];walk_at "ek";walk_at "es";exact⟨_,rfl,c0 (q _ K1)⟩
  case second t a h1=>
   simp only[Pg.hgt]at hp;refine pr rfl rfl (by decide) (by decide) (by decide) ⟨h1,k2,k3,k4⟩ (by lia) λs1 K1=>?_;change f8 _ (.cons _ _) _ _ _;simp only[Pg.d]
   iterate 5 refine sk1 rfl (by decide) ?_
   walk_at "es";walk_at "es";simp only[Kd.d];walk_at "ek";walk_at "es";exact⟨_,rfl,c0 (q _ K1)⟩
  case pair t u a b h1 h2=>
   simp only[Pg.hgt]at hp;refine pr rfl rfl (by decide) (by decide) (by decide) ⟨h1,k2,k3.1,k4.1⟩ (by lia) λs1 K1=>?_;change f8 _ (.cons _ _) _ _ _;simp only[Pg.d]
   iterate 5 refine sk1 rfl (by decide) ?_
   walk_at "es";walk_at "es";refine⟨by rw[hk];rfl,ih u (by lia) (by lia) (by lia) ⟨h2,k2,k3.2,k4.2⟩ (by lia) λs2 K2=>?_⟩;walk_at "es";walk_at "es";exact λc hc=>.inr ⟨ab8 _,c0 (q _ ((K1.trans K2).new hc))⟩
  case give t u a h2 h1=>
   simp only[Pg.hgt]at hp;refine pr rfl rfl (by decide) (by decide) (by decide) ⟨h1,k2,k3.1,k4.1⟩ (by lia) λs1 K1=>?_;change f8 _ (.cons _ _) _ _ _;simp only[Pg.d]
   iterate 5 refine sk1 rfl (by decide) ?_
   walk_at "es";walk_at "es";refine⟨by rw[hk];rfl,ih u (by lia) (by lia) (by lia) ⟨h2,k2,k3.2,k4.2⟩ (by lia) λs2 K2=>?_⟩;refine sk1 rfl (by decide) ?_;simp only[Kd.d];walk_at "es";refine .inr ⟨ab8 _,?_⟩;have na:=ai9 h2 k2 k3.2 k4.2;rw[O4,E9];refine⟨t9 _,t9 _,BF (Dr _ _) (by rw[z9];lia),?_⟩;simp only[decide_true];walk_at "ek";walk_at "es";exact c0 (q _ (K1.trans K2))
end
noncomputable def hlf:Option Kd->Kd×Kd
 |some (.eith a b)=>(a,b)
 |_=>(.non,.non)
noncomputable def Pg.als:List Kd->Pg->List (Pg×List Kd)
 |Γ,.name n=>[(.name n,Γ)]
 |Γ,.star=>[(.star,Γ)]
 |Γ,.pair t u=>(.pair t u,Γ)::(t.als Γ++(u.als Γ++[]))
 |Γ,.first t=>(.first t,Γ)::(t.als Γ++[])
 |Γ,.second t=>(.second t,Γ)::(t.als Γ++[])
 |Γ,.left b t=>(.left b t,Γ)::(t.als Γ++[])
 |Γ,.right b t=>(.right b t,Γ)::(t.als Γ++[])
 |Γ,.case t u v=>(.case t u v,Γ)::(t.als Γ++(u.als ((hlf (t.kind Γ)).1::Γ)++(v.als ((hlf (t.kind Γ)).2::Γ)++[])))
 |Γ,.way b t=>(.way b t,Γ)::(t.als (b::Γ)++[])
 |Γ,.give t u=>(.give t u,Γ)::(t.als Γ++(u.als Γ++[]))
 |Γ,.lets t u=>(.lets t u,Γ)::(t.als Γ++(u.als ((t.kind Γ).getD .non::Γ)++[]))
 |Γ,.never b t=>(.never b t,Γ)::(t.als Γ++[])
noncomputable def Pg.kN(Γ:List Kd):Pg->List (Pg×List Kd)
 |.name _=>[]
 |.star=>[]
 |.pair t u=>[(t,Γ),(u,Γ)]
 |.first t=>[(t,Γ)]
 |.second t=>[(t,Γ)]
 |.left _ t=>[(t,Γ)]
 |.right _ t=>[(t,Γ)]
 |.case t u v=>[(t,Γ),(u,(hlf (t.kind Γ)).1::Γ),(v,(hlf (t.kind Γ)).2::Γ)]
 |.way b t=>[(t,b::Γ)]
 |.give t u=>[(t,Γ),(u,Γ)]
 |.lets t u=>[(t,Γ),(u,(t.kind Γ).getD .non::Γ)]
 |.never _ t=>[(t,Γ)]
noncomputable def E5(l:List (Pg×List Kd)):List (Pg×List Kd):=(l.map λx=>x.1.als x.2).flatten
def am9(Γ:List Kd)(p:Pg):p.als Γ=(p,Γ)::E5 (p.kN Γ):=by cases p<;>rfl
def a82(Γ:List Kd)(p:Pg):(p.kN Γ).map Prod.fst=p.kids:=by cases p<;>rfl
def V0:∀(p:Pg)(Γ:List Kd),(p.als Γ).length=p.parts:=by
 intro p
 induction p with
 |name n=>intro Γ;rfl
 |star=>intro Γ;rfl
 |pair t u iht ihu|give t u iht ihu|lets t u iht ihu=>intro Γ;simp only[Pg.als,Pg.parts,AW,Ac,BQ,iht,ihu];lia
 |case t u v iht ihu ihv=>intro Γ;simp only[Pg.als,Pg.parts,AW,Ac,BQ,iht,ihu,ihv];lia
 |first t iht|second t iht|left b t iht|right b t iht|way b t iht|never b t iht=>intro Γ;simp only[Pg.als,Pg.parts,AW,Ac,BQ,iht];lia
noncomputable def A6(x:Pg×List Kd):D:=.tup [x.1.d,.tup (x.2.map Kd.d)]
inductive Plc:Pg->List Kd->Nat->List Kd->Prop
 |o {p:Pg} {Γ:List Kd} {i:Nat} {w:String} {r:List D}:p.d=.tup (.str (Ab w)::r)->w≠"way"->¬(w="let"∧(i:Int)=1)->¬(w="case"∧0<(i:Int))->Plc p Γ i Γ
 |way {b t Γ i}:Plc (.way b t) Γ i (b::Γ)
 |lets {t u a Γ}:Fit t Γ a->Plc (.lets t u) Γ 1 (a::Γ)
 |c1 {t u v a b Γ}:Fit t Γ (.eith a b)->Plc (.case t u v) Γ 1 (a::Γ)
 |c2 {t u v a b Γ}:Fit t Γ (.eith a b)->Plc (.case t u v) Γ 2 (b::Γ)
def bh5{k:Kd}(F:Fit p Γ k):∀(i:Nat)x,(p.kN Γ)[i]?=AA x->(∃c,Fit x.1 x.2 c)∧Plc p Γ i x.2∧x.2.length<=Γ.length+1:=by
 have z1:Γ.length<=Γ.length+1:=Gv _;have no:∀{i:Nat}{a x:Pg×List Kd}{P:Prop},[a][i+1]?=AA x->P:=λh=>nomatch h;have no2:∀{i:Nat}{a b x:Pg×List Kd}{P:Prop},[a,b][i+2]?=AA x->P:=λh=>nomatch h;obtain⟨k1,k2,k3,k4⟩:=F;intro i x h;cases k1
 case name=>cases h
 case star=>cases h
 case pair t u a b h1 h2=>match i,h with
  |0,h=>cases h;exact⟨⟨_,h1,k2,k3.1,k4.1⟩,.o rfl (by decide) (by decide) (by decide),z1⟩
  |1,h=>cases h;exact⟨⟨_,h2,k2,k3.2,k4.2⟩,.o rfl (by decide) (by decide) (by decide),z1⟩
  |i+2,h=>exact no2 h
 case give t u a h2 h1=>match i,h with
  |0,h=>cases h;exact⟨⟨_,h1,k2,k3.1,k4.1⟩,.o rfl (by decide) (by decide) (by decide),z1⟩
  |1,h=>cases h;exact⟨⟨_,h2,k2,k3.2,k4.2⟩,.o rfl (by decide) (by decide) (by decide),z1⟩
  |i+2,h=>exact no2 h
 case first h1=>match i,h with
  |0,h=>cases h;exact⟨⟨_,h1,k2,k3,k4⟩,.o rfl (by decide) (by decide) (by decide),z1⟩
  |i+1,h=>exact no h
 case second h1=>match i,h with
  |0,h=>cases h;exact⟨⟨_,h1,k2,k3,k4⟩,.o rfl (by decide) (by decide) (by decide),z1⟩
  |i+1,h=>exact no h
 case left h1=>match i,h with
  |0,h=>cases h;exact⟨⟨_,h1,k2,k3.2,k4⟩,.o rfl (by decide) (by decide) (by decide),z1⟩
  |i+1,h=>exact no h
 case right h1=>match i,h with
  |0,h=>cases h;exact⟨⟨_,h1,k2,k3.2,k4⟩,.o rfl (by decide) (by decide) (by decide),z1⟩
  |i+1,h=>exact no h
 case never h1=>match i,h with
  |0,h=>cases h;exact⟨⟨_,h1,k2,k3.2,k4⟩,.o rfl (by decide) (by decide) (by decide),z1⟩
  |i+1,h=>exact no h
 case way h1=>match i,h with
  |0,h=>cases h;exact⟨⟨_,h1,C2 k2 k3.1,k3.2,k4⟩,.way,AU _⟩
  |i+1,h=>exact no h
 case lets t u a h1 h2=>
  have f1:Fit t Γ a:=⟨h1,k2,k3.1,k4.1⟩;replace h:[(t,Γ),(u,(t.kind Γ).getD .non::Γ)][i]?=AA x:=h;rw[h1.kind]at h
  match i,h with
  |0,h=>cases h;exact⟨⟨_,f1⟩,.o rfl (by decide) (by decide) (by decide),z1⟩
  |1,h=>cases h;exact⟨⟨_,h2,C2 k2 (k4.2 a h1.kind).1,k3.2,(k4.2 a h1.kind).2⟩,.lets f1,AU _⟩
  |i+2,h=>exact no2 h
 case case t u v a b h1 h2 h3=>
  have f1:Fit t Γ (.eith a b):=⟨h1,k2,k3.1,k4.1⟩;obtain⟨⟨na,nb⟩,l2,l3⟩:=k4.2 a b h1.kind;replace h:[(t,Γ),(u,(hlf (t.kind Γ)).1::Γ),(v,(hlf (t.kind Γ)).2::Γ)][i]?=AA x:=h;rw[h1.kind]at h
  match i,h with
  |0,h=>cases h;exact⟨⟨_,f1⟩,.o rfl (by decide) (by decide) (by decide),z1⟩
  |1,h=>cases h;exact⟨⟨_,h2,C2 k2 na,k3.2.1,l2⟩,.c1 f1,AU _⟩
  |2,h=>cases h;exact⟨⟨_,h3,C2 k2 nb,k3.2.2,l3⟩,.c2 f1,AU _⟩
  |i+3,h=>cases h
def cf7{l:List (Pg×List Kd)}{x:Pg×List Kd}:x∈l->x.1.parts<=(E5 l).length:=by
 induction l with
 |nil=>exact nofun
 |cons a l ih=>
  intro h;show _<=(a.1.als a.2++E5 l).length;rw[Ac,V0]
  rcases AM.1 h with rfl|h
  ·exact Fw _ _
  ·exact BF (ih h) (Nat.le_add_left _ _)
def bl1{x:Pg×List Kd}(h:x∈p.kN Γ):x.1.parts<=p.parts∧x.1.hgt<p.hgt:=
 ⟨by rw[<-V0 p Γ,am9];exact Nat.le_succ_of_le (cf7 h),p.hgt_kids _ (by rw[<-a82 Γ];exact Ce.2 ⟨x,h,rfl⟩)⟩
theorem ba6:∀(h:Nat){p:Pg}{Γ:List Kd}{k:Kd},p.hgt<h->Fit p Γ k->∀x∈p.als Γ,(∃k',Fit x.1 x.2 k')∧x.1.hgt<=p.hgt∧x.1.parts<=p.parts∧x.2.length+x.1.hgt<=Γ.length+p.hgt
 |0,p,Γ,k,hp,F,x,hx=>nomatch hp
 |h+1,p,Γ,k,hp,F,x,hx=>by
  rw[am9]at hx
  rcases AM.1 hx with rfl|hx
  ·exact⟨⟨k,F⟩,AU _,AU _,AU _⟩
  ·obtain⟨_,hl,hx⟩:=mem_flatten.1 hx;obtain⟨y,hy,rfl⟩:=Ce.1 hl;obtain⟨i,hi⟩:=DY.1 hy;obtain⟨⟨c,Fy⟩,_,l1⟩:=bh5 F i y hi;have l2:=bl1 hy;obtain⟨e,e1,e2,e3⟩:=ba6 h (by lia) Fy x hx;exact⟨e,by lia,by lia,by lia⟩
noncomputable def Ss.fb:Ss->Ss
 |.cons (.for _ _ b) _=>b
 |_=>.nil
section
variable (B:PB P) (hk:P "_law_kind_of"=AA E6) (hc:P "_law_kind_of_case"=AA U2) (hA:P "_law_all"=AA U4)
include B hk hc hA
omit B hk hc hA in
theorem cx6:[D.tup [p.d,.tup (Γ.map Kd.d)]]=[(p,Γ)].map A6:=rfl
omit B hk hc hA in
theorem cs5{xs ys:List (Pg×List Kd)}(h1:st a=AA (.lst (xs.map A6)))(h2:st b=AA (.lst (ys.map A6)))(hz:xs.length+ys.length<=1000)(q:∀p,st p=AE->Q (.ref p) (b0 st p (.lst ((xs++ys).map A6)))):w8 .Add (.ref a) (.ref b) st Q:=
 ⟨_,_,h1,h2,E1 (by simp only[AV];lia),by rw[<-Ag];exact q⟩
omit B hk hc hA in
theorem ifc{c d:Prop}[Decidable c][Decidable d]{A B:Prop}(h:¬(c∧d))(b:B):if c then if d then A else B else B:=by
 by_cases hc:c
 ·rw[if_pos hc,if_neg λhd=>h ⟨hc,hd⟩];exact b
 ·rw[if_neg hc];exact b
noncomputable def bm1:Ss:=U4.body.tl.tl.fb
def b50{E:DEnds}{N:AI->Sto->Prop}{t:Pg}{h:Nat}{f:AI}{s:Sto}{z:Option D}(pl:Plc p Γ i Δ)(hp:p.hgt<=h+1)(hh:h<=100)(hn:2*h+3<=n+1)(hl:Γ.length+h<=900)
  (call:∀{s2:Sto}{R:DK},Kp [] s s2->(∀f' s',N f' s'->R (.ref f') s')->sem P G (n+1) "_law_all" [t.d,.tup (Δ.map Kd.d)] s2 λy s3=>w8 .Add (.ref f) y s3 R)
  (hE:∀f' s' z',N f' s'->E.nx [AA p.d,AA (.tup (Γ.map Kd.d)),AA (.ref f'),AA (.tup (p.kids.map Pg.d)),AA (.int i),AA t.d,z'] s') :
  f8 (Zg P G (n+1)) bm1 E [AA p.d,AA (.tup (Γ.map Kd.d)),AA (.ref f),AA (.tup (p.kids.map Pg.d)),AA (.int i),AA t.d,z] s:=by
 have last:∀{s2:Sto}(M:List Kd),Δ=M++Γ->M.length<=1->Kp [] s s2->f8 (Zg P G (n+1)) bm1.tl.tl.tl.tl E [AA p.d,AA (.tup (Γ.map Kd.d)),AA (.ref f),AA (.tup (p.kids.map Pg.d)),AA (.int i),AA t.d,AA (.tup (M.map Kd.d))] s2:=by
  intro s2 M eM hM K2;change f8 _ (.cons _ _) _ _ _;walk_at "es";refine⟨by rw[hA];rfl,E1 (by simp only[AV];lia),?_⟩;rw[<-Ag,<-eM];exact call K2 λf' s' hN=>hE f' s' _ hN
 have ko:∀{c:Pg}{a:Kd}{Q:DK},Fit c Γ a->c.hgt<=h->(∀s',Kp [] s s'->Q a.d s')->sem P G (n+1) "_law_kind_of" [c.d,.tup (Γ.map Kd.d)] s Q:=λF1 h1 q=>an4 B hk hc h _ h1 hh hn F1 hl q;change f8 _ (.cons _ _) _ _ _;cases pl with
 |o e w1 w2 w3=>
  have l0:=last [] rfl (BU _) Kp.refl;rw[e]at l0 ⊢;walk_at "es";walk_at "es";rw[if_neg w1];walk_at "es";refine ifc w2 (ifc w3 ?_);walk_at "es";exact ifc w3 l0
 |way=>
  rename_i b t;have l0:=last [b] rfl (AU _) Kp.refl;simp only[Pg.d]at l0 ⊢
  iterate 5 walk_at "es"
  exact l0
 |lets F1=>
  rename_i t u a;have l0:=λs2=>last (s2:=s2) [a] rfl (AU _);have h1:t.hgt<=h:=by simp only[Pg.hgt]at hp;lia
  simp only[Pg.d,Pg.kids,Aa,Cq]at l0 ⊢
  iterate 3 walk_at "es"
  rw[if_pos (by decide)];walk_at "es";refine⟨by rw[hk];rfl,ko F1 h1 λs2 K2=>?_⟩;walk_at "es";exact l0 s2 K2
 |c1 F1=>
  rename_i t u v a b;have l0:=λs2=>last (s2:=s2) [a] rfl (AU _);have h1:t.hgt<=h:=by simp only[Pg.hgt]at hp;lia
  simp only[Pg.d,Pg.kids,Aa,Cq]at l0 ⊢
  iterate 3 walk_at "es"
  rw[if_pos (by decide)];walk_at "es";refine⟨by rw[hk];rfl,ko F1 h1 λs2 K2=>?_⟩;walk_at "es";rw[if_pos (by decide)];simp only[Kd.d];walk_at "es";exact⟨_,rfl,l0 s2 K2⟩
 |c2 F1=>
  rename_i t u v a b;have l0:=λs2=>last (s2:=s2) [b] rfl (AU _);have h1:t.hgt<=h:=by simp only[Pg.hgt]at hp;lia
  simp only[Pg.d,Pg.kids,Aa,Cq]at l0 ⊢
  iterate 3 walk_at "es"
  rw[if_pos (by decide)];walk_at "es";refine⟨by rw[hk];rfl,ko F1 h1 λs2 K2=>?_⟩;walk_at "es";rw[if_pos (by decide)];simp only[Kd.d];walk_at "es";exact⟨_,rfl,l0 s2 K2⟩
def ck8:∀(h:Nat)(p:Pg){Γ:List Kd}{k:Kd}{n:Nat}{st:Sto}{Q:DK},p.hgt<=h->h<=100->2*h+5<=n->Fit p Γ k->Γ.length+h<=900->p.parts<=200->(∀a st',st a=AE->st' a=AA (.lst ((p.als Γ).map A6))->Kp [] st st'->Q (.ref a) st')->sem P G n "_law_all" [p.d,.tup (Γ.map Kd.d)] st Q:=by
 intro h
 induction h with
 |zero=>intro p Γ k n st Q hp;cases p<;>simp only[Pg.hgt]at hp<;>lia
 |succ h ih=>
  intro p Γ k n st Q hp hh hn F hl hps q;obtain⟨n,rfl⟩:∃m,n=m+2:=⟨n-2,by lia⟩;refine g9 hA rfl [AA p.d,AA (.tup (Γ.map Kd.d)),AE,AE,AE,AE,AE] rfl ?_;unfold U4;walk_at "es";intro fa hfa;rw[cx6];have K0:Kp [] st (b0 st fa (.lst ([(p,Γ)].map A6))):=Kp.refl.new hfa;have F0:b0 st fa (.lst ([(p,Γ)].map A6)) fa=AA (.lst ([(p,Γ)].map A6)):=c9;revert K0 F0;generalize b0 st fa (.lst ([(p,Γ)].map A6))=st0;intro K0 F0;walk_at "es";refine⟨by rw[B.inner];rfl,ai0 B p ?_⟩;walk_at "es";have hal:=am9 Γ p;have hLn:=V0 p Γ;refine A9 (λl env s=>∃(pre suf:List (Pg×List Kd))(f:AI)(x y z:Option D),p.kN Γ=pre++suf∧l=o6 pre.length (suf.map λx=>x.1.d)∧st f=AE∧s f=AA (.lst (((p,Γ)::E5 pre).map A6))∧Kp [] st s∧env=[AA p.d,AA (.tup (Γ.map Kd.d)),AA (.ref f),AA (.tup (p.kids.map Pg.d)),x,y,z]) ?_ ?_ _ _ _ ⟨[],p.kN Γ,fa,AE,AE,AE,rfl,by rw[<-a82 Γ,CL];rfl,hfa,F0,K0,rfl⟩
  ·rintro env s ⟨pre,suf,f,x,y,z,e1,e2,h1,h2,h3,rfl⟩;refine⟨trivial,?_⟩;cases suf with
   |cons a l=>cases e2
   |nil=>
    walk_at "es";rw[BP]at e1;refine c0 (q _ _ h1 ?_ h3);rw[hal,e1];exact h2
  ·rintro d ds env s ihL ⟨pre,suf,f,x,y,z,e1,e2,h1,h2,h3,rfl⟩;refine⟨trivial,?_⟩;cases suf with
   |nil=>cases e2
   |cons t suf=>
    obtain⟨rfl,rfl⟩:=List.cons.inj e2;have hi:(p.kN Γ)[pre.length]?=AA t:=by rw[e1,Aj (AU _),Jz];rfl
    have hm:t∈p.kN Γ:=BE hi;obtain⟨⟨c,Ft⟩,pl,hlen⟩:=bh5 F _ t hi;have hle:=bl1 hm;have hsz:1+(E5 pre).length+t.1.parts<=200:=by
     have e3:E5 (pre++t::suf)=E5 pre++(t.1.als t.2++E5 suf):=by simp only[E5,Ag,Aa,CO,CC]
     rw[hal,e1,e3]at hLn;simp only[AW,Ac,V0]at hLn;lia
    walk_at "ek";refine b50 B hk hc hA (N:=λf' s'=>st f'=AE∧s' f'=AA (.lst (((p,Γ)::E5 (pre++[t])).map A6))∧Kp [] st s') pl hp (by lia) (by lia) (by lia) (λK2 hR=>?_) λf' s' z' hN=>?_
    ·refine ih t.1 (by lia) (by lia) (by lia) Ft (by lia) (by lia) λa s3 ha hs3 K3=>cs5 (K3.at' (K2.at' h2 (by simp)) (by simp)) hs3 (by rw[V0,AW];lia) λb hb=>?_;have K4:=(h3.trans K2).trans K3;exact hR _ _ ⟨none_of K4 hb,by rw[c9];simp only[E5,Ag,CO,Aa,Cq,CC,List.flatten_nil,BP,CB],K4.new hb⟩
    ·exact ihL _ _ ⟨pre++[t],suf,f',_,_,z',by rw[e1,CT];rfl,by rw[Ac];rfl,hN.1,hN.2.1,hN.2.2,rfl⟩
end
noncomputable def Kd.great(k:Kd):Kd:=.both (.both k k) (.way (.eith .one .one) (.both k k))
def bz8(k:Kd):k.great.nest<=3+k.nest:=by simp only[Kd.great,Kd.nest];lia
def cl3{r:Nat}:(AX r [D.tup [.str "one"]]).flatten=(AX r Kd.one).map Kd.d:=by
 induction r with
 |zero=>rfl
 |succ r ih=>rw[Bx,CC,ih,Bx,Aa];rfl
section
variable (B:PB P) (T:PNo P G) (hk:P "_law_kind_of"=AA E6) (hc:P "_law_kind_of_case"=AA U2) (hA:P "_law_all"=AA U4) 
include B T hk hc hA
def cu6(hlaw:P "law"=AA Y2){ns:List Int}(hn:60<=n)(hl:ns.length<=63)(h:rdS st a (ns.map D.int)):sem P G n "law" [.ref a] st λd _=>d=.bl AC:=by
 obtain⟨n,rfl⟩:∃m,n=m+2:=⟨n-2,by lia⟩;refine g9 hlaw rfl [AA (.ref a),AE,AE,AE,AE,AE,AE,AE,AE,AE,AE] rfl ?_;unfold Y2;have nk:∀q:Kd,q.nest<=100->q.d.pure=AC∧q.d.pure=AC∧Dv (l6 q.d) (l6 q.d)<=150∧(!deq q.d q.d)=AG:=λq hq=>⟨t9 q,t9 q,BF (Dr _ _) (by rw[z9];lia),by rw[E9];simp⟩;walk_at "es";refine⟨by rw[B.deck];rfl,ch3 B.toPB0 (by lia) hl h λda st1 I1 _=>?_⟩;walk_at "es";refine⟨by rw[B.names];rfl,b57 B (most:=3) (lines:=64) (by lia) (by decide) (by decide) (by decide) I1 λΓ st2 hΓ hkΓ hr I2 _=>?_⟩;walk_at "es";refine⟨by rw[B.kind];rfl,aa4 B.toPB0 (most:=16) (by decide) (by decide) 3 (by lia) I2 λk st3 gk bk nk3 I3 _=>?_⟩;walk_at "es";refine⟨by rw[B.program];rfl,by rw[B.next];rfl,B0 B.toPB0 (m:=30) (by decide) I3 λr4 st4 r40 r41 I4 _=>?_⟩;walk_at "ek";refine bx1 B (by lia) (by lia) I4 gk (Kd.bd_mono (by decide) bk) (by lia) (by lia) λp st5 kp hp pp mp _ lp I5 _=>?_;have hΓ6:∀y∈Γ,y.nest<=6:=λy hy=>by have:=(hkΓ y hy).2.2;lia
 have Fp:Fit p Γ k:=⟨bl8 kp,hΓ6,mp,lp⟩;obtain⟨n1,n2,n3,n4⟩:=nk k (by lia);walk_at "es";refine⟨by rw[T.ko];rfl,P7 T (by lia) (by lia) hΓ6 (by lia) kp mp λst6 K6=>?_⟩;have I6:=I5.keep K6 (by simp);rw[O4,n4];refine⟨n1,n2,n3,?_⟩;walk_at "ek";refine⟨by rw[hk];rfl,an4 B hk hc 15 p hp (by lia) (by lia) Fp (by lia) λst7 K7=>?_⟩;have I7:=I6.keep K7 (by simp);rw[O4,n4];refine⟨n1,n2,n3,?_⟩;walk_at "ek";walk_at "es";refine⟨by rw[hA];rfl,ck8 B hk hc hA 15 p hp (by lia) (by lia) Fp (by lia) (by lia) λla st8 _ hla K8=>?_⟩;have I8:=I7.keep K8 (by simp);refine .inr ⟨_,_,rfl,.inl hla,?_⟩;refine A9 (λl env s=>r8 s da∧s la=AA (.lst ((p.als Γ).map A6))∧∃(suf:List (Pg×List Kd))(x y:Option D),l=suf.map A6∧(∀z∈suf,z∈p.als Γ)∧env=[AA (.ref a),AA (.ref da),AA (.tup (Γ.map Kd.d)),AA k.d,AA p.d,x,y,AE,AE,AE,AE]) ?_ ?_ _ _ _ ⟨I8,hla,p.als Γ,AE,AE,rfl,λz hz=>hz,rfl⟩
 rotate_left
 ·rintro d ds env s ih ⟨I,hs,suf,x,y,el,hsuf,rfl⟩;refine⟨.inl hs,?_⟩;cases suf with
  |nil=>simp at el
  |cons z suf=>
   simp only[Aa,Ah]at el;obtain⟨rfl,rfl⟩:=el;obtain⟨⟨k',F'⟩,f1,f2,f3⟩:=ba6 _ (GL _) Fp z (hsuf z (by simp));have nk':=F'.nest;obtain⟨m1,m2,m3,m4⟩:=nk k' (by lia);simp only[A6];walk_at "ek";walk_at "es";refine⟨by rw[T.ko];rfl,P7 T (by lia) (by lia) F'.hΓ (by lia) F'.kind.kind F'.kn λs1 K1=>?_⟩;walk_at "ek";refine⟨by rw[hk];rfl,an4 B hk hc 15 z.1 (by lia) (by lia) (by lia) F' (by lia) λs2 K2=>?_⟩;rw[O4,m4];refine⟨m1,m2,m3,?_⟩;walk_at "ek";exact ih _ _ ⟨(I.keep K1 (by simp)).keep K2 (by simp),K2.at' (K1.at' hs (by simp)) (by simp),suf,_,_,rfl,λw hw=>hsuf w (by simp[hw]),rfl⟩
 rintro env st9 ⟨I9,hs9,suf,x,y,el,-,rfl⟩;refine⟨.inl hs9,?_⟩;have eg:D.tup [.str "both",.tup [.str "both",k.d,k.d],.tup [.str "way",.tup [.str "either",.tup [.str "one"],.tup [.str "one"]],.tup [.str "both",k.d,k.d]]]=k.great.d:=rfl;walk_at "es";rw[eg];walk_at "es";refine⟨by rw[B.next];rfl,B0 B.toPB0 (m:=90) (by decide) I9 λr st10 r0 r1 I10 _=>?_⟩;obtain⟨r,rfl⟩:=HG r0;walk_at "ek";have er:((1:Int)+(r:Nat)).toNat=r+1:=by lia
 refine⟨by simp,by lia,by lia,E1 (by rw[er];simp;lia),?_⟩;rw[er,cl3];walk_at "ek";refine⟨E1 (by simp only[AV,DV];lia),E1 (by simp only[Ac,AV,DV];simp;lia),?_⟩;rw[show Γ.map Kd.d++(AX (r+1) Kd.one).map Kd.d++[k.great.d]=(Γ++AX (r+1) Kd.one++[k.great]).map Kd.d by simp];have hW:(Γ++AX (r+1) Kd.one++[k.great]).length=Γ.length+(r+1)+1:=by simp;lia
 have gW:(Γ++AX (r+1) Kd.one++[k.great])[Γ.length+(r+1)]?=AA k.great:=by rw[Aj (by simp)];simp
 have pW:p.kind (Γ++AX (r+1) Kd.one++[k.great])=AA k:=(bi2 (bi2 (bl8 kp))).kind;have ng:=bz8 k;have kW:∀y∈Γ++AX (r+1) Kd.one++[k.great],y.nest<=6:=λy hy=>by
  simp only[mem_append,List.mem_replicate,Bi]at hy
  rcases hy with(hy|hy)|hy
  ·exact hΓ6 y hy
  ·rw[hy.2];simp[Kd.nest]
  ·rw[hy];lia
 revert hW gW pW kW;generalize Γ++AX (r+1) Kd.one++[k.great]=W;intro hW gW pW kW;walk_at "es";rw[AV];rw[show D.tup [.str "name",.int ((W.length:Nat)-1:Int)]=(Pg.name (Γ.length+(r+1))).d by simp only[Pg.d];congr 4;lia];walk_at "es";have lK:(Pg.name (Γ.length+(r+1))).kind W=AA k.great:=gW;have hall:∀x∈[((Pg.left k.great p,.eith k k.great):Pg×Kd),(.name (Γ.length+(r+1)),k.great),(p,k)],x.1.kind W=AA x.2∧x.1.parts<=100∧x.1.kn 6∧x.2.nest<=20:=by
  intro x hx;simp only[AM,Ae,or_false]at hx
  rcases hx with rfl|rfl|rfl
  ·exact⟨by simp only[Pg.kind,pW],by simp only[Pg.parts];lia,⟨by lia,mp⟩,by simp only[Kd.nest];lia⟩
  ·exact⟨gW,by simp[Pg.parts],trivial,by simp only;lia⟩
  ·exact⟨pW,by simp only;lia,mp,by simp only;lia⟩
 show p7 _ _ _ _ (([((Pg.left k.great p,.eith k k.great):Pg×Kd),(.name (Γ.length+(r+1)),k.great),(p,k)]).map λx=>D.tup [x.1.d,x.2.d]) _ _;revert hall;generalize [((Pg.left k.great p,.eith k k.great):Pg×Kd),(.name (Γ.length+(r+1)),k.great),(p,k)]=L;intro hall;refine A9 (λl env s=>∃(suf:List (Pg×Kd))(x y z:Option D),l=suf.map (λx=>D.tup [x.1.d,x.2.d])∧(∀z∈suf,z∈L)∧env=[AA (.ref a),AA (.ref da),AA (.tup (Γ.map Kd.d)),AA k.d,AA p.d,x,y,AA k.great.d,AA (.tup (W.map Kd.d)),AA (Pg.name (Γ.length+(r+1))).d,z]) ?_ ?_ _ _ _ ⟨L,_,_,_,rfl,λz hz=>hz,rfl⟩
 rotate_left
 ·rintro d ds env s ih ⟨suf,x,y,z,el,hsuf,rfl⟩;refine⟨trivial,?_⟩;cases suf with
  |nil=>simp at el
  |cons w suf=>
   simp only[Aa,Ah]at el;obtain⟨rfl,rfl⟩:=el;obtain⟨f1,f2,f3,f4⟩:=hall w (hsuf w (by simp));obtain⟨m1,m2,m3,m4⟩:=nk w.2 (by lia);obtain⟨o1,o2,o3,o4⟩:=nk (.both w.2 k.great) (by simp only[Kd.nest];lia);walk_at "ek";walk_at "es";refine⟨by rw[T.ko];rfl,P7 T (by lia) (by lia) kW (by lia) f1 f3 λs1 K1=>?_⟩;rw[O4,m4];refine⟨m1,m2,m3,?_⟩;walk_at "ek";refine⟨by rw[T.ko];rfl,?_⟩;rw[show D.tup [.str "pair",w.1.d,(Pg.name (Γ.length+(r+1))).d]=(Pg.pair w.1 (.name (Γ.length+(r+1)))).d from rfl];refine P7 T (by lia) (by simp only[Pg.parts];lia) kW (by lia) (k:=.both w.2 k.great) (by simp only[Pg.kind,f1,gW]) ⟨f3,trivial⟩ λs2 K2=>?_;walk_at "ek";rw[show D.tup [.str "both",w.2.d,k.great.d]=(Kd.both w.2 k.great).d from rfl,O4,o4];refine⟨o1,o2,o3,?_⟩;walk_at "ek";walk_at "es";refine⟨by rw[T.ko];rfl,?_⟩;rw[show D.tup [.str "second",.tup [.str "first",(Pg.name (Γ.length+(r+1))).d]]=(Pg.second (.first (.name (Γ.length+(r+1))))).d from rfl];refine P7 T (by lia) (by simp only[Pg.parts];lia) kW (by lia) (k:=k) (by simp only[Pg.kind,gW,Kd.great]) trivial λs3 K3=>?_;rw[O4,n4];refine⟨n1,n2,n3,?_⟩;walk_at "ek";exact ih _ _ ⟨suf,_,_,_,rfl,λv hv=>hsuf v (by simp[hv]),rfl⟩
 rintro env s11 ⟨suf,x',y',z',el',-,rfl⟩;refine⟨trivial,?_⟩;walk_at "es";refine⟨by rw[T.ko];rfl,P7 T (by lia) (by lia) hΓ6 (by lia) kp mp λs12 K12=>?_⟩;rw[W6,E9];refine⟨n1,n2,n3,c0 ?_⟩;simp
end
def c29:PB V2:=⟨⟨rfl,rfl,rfl,rfl,rfl,rfl⟩,rfl,rfl,rfl,rfl,rfl,rfl,rfl,rfl,rfl⟩
def c37:PNo V2 z4:=by
 repeat' (first|rfl|(intro z;cases z;done)|constructor)
def b27(a:AI)(ns:List Int)(h:ns.length<=63):sem V2 z4 80 "law" [.ref a] (st0 a ns) λd _=>d=.bl AC:=
 cu6 c29 c37 rfl rfl rfl rfl (by decide) h (.inr (by unfold st0;rw[if_pos rfl]))
end Ek
namespace Ek
open PySem L2
noncomputable def top(i:Nat):BR:=PySem.Challenge.pw_evenkinds_k21_kinds_of_programs.main.body.getD i (.Pass ⟨0,0,0,0⟩)
noncomputable def mth(i k:Nat):BR:=match top i with|.ClassDef _ _ _ b _ _ _ _ _ _ _=>b.getD k (.Pass ⟨0,0,0,0⟩)|_=>.Pass ⟨0,0,0,0⟩
def bu8:Stat0 (mth 15 2) U3 ["self","kind","deep"]:=⟨⟨rfl,rfl,rfl,by decide+kernel,rfl,by decide+kernel,by decide+kernel⟩,rfl,by decide+kernel⟩
def ct2{pr:Ai}{w:Ax}{K:AO}{h:BC}{mg:Str->Option AF}{ts:List AI}(X:K.In h)(G:h.Ns AN mg){g0:AI}{g1:AI}{g2:AI}{kt0:Tok}{C0:AI}{C1:AI}
  (a0:FnA K ts AG "made_of_parts" (top 7))
  (a1:FnA K ts AG "order_of_few" (top 8))
  (a2:FnA K ts AG "taken" (top 10))
  (a3:FnA K ts AG "tuples_in" (top 14))
  (a4:FnA K ts AG "inner" (top 19))
  (a5:FnA K ts AG "names_more" (top 20))
  (a6:FnA K ts AC "noded" (top 22))
  (a7:FnA K ts AG "used_names" (top 23))
  (a8:FnA K ts AG "used_by_parts" (top 24))
  (a9:FnA K ts AG "folded" (top 25))
  (a10:FnA K ts AG "known_for" (top 26))
  (a11:FnA K ts AG "kind_of" (top 27))
  (a12:FnA K ts AG "shelved_names" (top 28))
  (a13:FnA K ts AG "shelved_kind" (top 29))
  (a14:FnA K ts AC "kind_of_node" (top 30))
  (a15:FnA K ts AG "kind_by_parts" (top 31))
  (a16:FnA K ts AG "new_name" (top 32))
  (a17:FnA K ts AG "halves_of" (top 33))
  (a18:FnA K ts AG "kind_of_name" (top 34))
  (a19:FnA K ts AG "kind_of_star" (top 35))
  (a20:FnA K ts AG "kind_of_pair" (top 36))
  (a21:FnA K ts AG "kind_of_first" (top 37))
  (a22:FnA K ts AG "kind_of_second" (top 38))
  (a23:FnA K ts AG "kind_of_left" (top 39))
  (a24:FnA K ts AG "kind_of_right" (top 40))
  (a25:FnA K ts AG "kind_of_case" (top 41))
  (a26:FnA K ts AG "kind_of_way" (top 42))
  (a27:FnA K ts AG "kind_of_give" (top 43))
  (a28:FnA K ts AG "kind_of_let" (top 44))
  (a29:FnA K ts AG "kind_of_never" (top 45))
  (a30:FnA K ts AG "_law_mixed" (top 48))
  (a31:FnA K ts AG "_law_deck" (top 49))
  (a32:FnA K ts AG "_law_next" (top 50))
  (a33:FnA K ts AG "_law_power" (top 51))
  (a34:FnA K ts AG "_law_count" (top 52))
  (a35:FnA K ts AG "_law_kind" (top 53))
  (a36:FnA K ts AG "_law_least" (top 54))
  (a37:FnA K ts AG "_law_made" (top 55))
  (a38:FnA K ts AG "_law_nest" (top 56))
  (a39:FnA K ts AG "_law_asked" (top 57))
  (a40:FnA K ts AG "_law_grown" (top 58))
  (a41:FnA K ts AG "_law_inner" (top 59))
  (a42:FnA K ts AG "_law_parts" (top 60))
  (a43:FnA K ts AG "_law_program" (top 61))
  (a44:FnA K ts AG "_law_names" (top 62))
  (a45:FnA K ts AG "_law_kind_of" (top 63))
  (a46:FnA K ts AG "_law_kind_of_case" (top 64))
  (a47:FnA K ts AG "_law_all" (top 65))
  (a48:FnA K ts AG "law" (top 66))
  (bb:∀b∈P9,Aw K AN b=AA AE)
  (ga0:Aw K AN "INNER_FROM"=AA (AA (.ref g0))) (gt0:(letI:Tbs:=⟨ts,mFB,(z4.cls "!kt").isEmpty⟩;W3 K g0 (z4.tab "INNER_FROM"))=AC)
  (ga1:Aw K AN "UNDER_ONE_MORE"=AA (AA (.ref g1))) (gt1:(letI:Tbs:=⟨ts,mFB,(z4.cls "!kt").isEmpty⟩;W3 K g1 (z4.tab "UNDER_ONE_MORE"))=AC)
  (ga2:Aw K AN "BY_WORD"=AA (AA (.ref g2))) (gt2:(letI:Tbs:=⟨ts,mFB,(z4.cls "!kt").isEmpty⟩;W3 K g2 (z4.tab "BY_WORD"))=AC)
  (kc0:Aw K AN "FEW"=AA (AA (.int 2000 kt0)))
  (kx0:Aw K AN "!kt"=AA AE)
  (ky0:Aw K AN "!Shelf.laid_kind"=AA AE)
  (ca0:ClA K "Shelf" C0)
  (ca1:ClA K "Node" C1) (cf0_0:BS K (.ref C0) "numbers"=AA AE) (cf0_1:BS K (.ref C0) "stored"=AA AE) (cf0_2:BS K (.ref C0) "parts"=AA AE) (cf0_3:BS K (.ref C0) "waiting"=AA AE) (cf1_0:BS K (.ref C1) "program"=AA AE) (cf1_1:BS K (.ref C1) "inside"=AA AE) (cf1_2:BS K (.ref C1) "number"=AA AE) (cf1_3:BS K (.ref C1) "holders"=AA AE) (cf1_4:BS K (.ref C1) "ways"=AA AE) (cf1_5:BS K (.ref C1) "used"=AA AE) (cf1_6:BS K (.ref C1) "kind"=AA AE)
  (m0:MtA K ts AG "Shelf" C0 "__init__" (mth 15 0))
  (m1:MtA K ts AC "Shelf" C0 "laid" (mth 15 1))
  (m2:MtD K "Shelf" C0 "laid_kind" (mth 15 2) 3)
  (m3:MtA K ts AG "Shelf" C0 "built" (mth 15 3))
  (m4:MtA K ts AG "Shelf" C0 "numbered" (mth 15 4))
  (m5:MtA K ts AG "Shelf" C0 "put_by" (mth 15 5))
  (m6:MtA K ts AG "Shelf" C0 "taken_up" (mth 15 6))
  (m7:MtA K ts AG "Shelf" C0 "tuple_at" (mth 15 7))
  (m8:MtA K ts AG "Shelf" C0 "word_at" (mth 15 8))
  (m9:MtA K ts AG "Shelf" C0 "within" (mth 15 9))
  (m10:MtA K ts AG "Shelf" C0 "all_laid" (mth 15 10))
  (m11:MtA K ts AG "Node" C1 "__init__" (mth 21 0)) (nl:Q2 K=AC) (nt:IH K=AC) (tso:ap5 K ts=AC) :
  (letI:Tbs:=⟨ts,mFB,(z4.cls "!kt").isEmpty⟩;AllOk pr w K mg V2 z4)∧Q2 K=AC∧IH K=AC∧∀P∈ts,∃c,Bt K c P=AC:=by
 letI:Tbs:=⟨ts,mFB,(z4.cls "!kt").isEmpty⟩
 refine⟨⟨λf d hf hi=>?_,λf d hf hi=>?_,λf c Ca hn hf=>?_,λb hb=>W.mg_none_of X G (bb b hb),λg hg=>?_,λg i hg=>?_,rfl⟩,nl,nt,cf0 tso⟩
 ·
  refine(?_:∀f d,(f,d)∈V3->isM f=AG->DefOk K mg f d) f d (PySem.mem_of_lookup hf) hi;unfold V3
  iterate 12 refine i6 (λhi=>absurd hi (by decide+kernel)) ?_
  refine i6 (λ_=>a0.ok X G) ?_;refine i6 (λ_=>a1.ok X G) ?_;refine i6 (λ_=>a2.ok X G) ?_;refine i6 (λ_=>a3.ok X G) ?_;refine i6 (λ_=>a4.ok X G) ?_;refine i6 (λ_=>a5.ok X G) ?_;refine i6 (λ_=>a6.ok X G) ?_;refine i6 (λ_=>a7.ok X G) ?_;refine i6 (λ_=>a8.ok X G) ?_;refine i6 (λ_=>a9.ok X G) ?_;refine i6 (λ_=>a10.ok X G) ?_;refine i6 (λ_=>a11.ok X G) ?_;refine i6 (λ_=>a12.ok X G) ?_;refine i6 (λ_=>a13.ok X G) ?_;refine i6 (λ_=>a14.ok X G) ?_;refine i6 (λ_=>a15.ok X G) ?_;refine i6 (λ_=>a16.ok X G) ?_;refine i6 (λ_=>a17.ok X G) ?_;refine i6 (λ_=>a18.ok X G) ?_;refine i6 (λ_=>a19.ok X G) ?_;refine i6 (λ_=>a20.ok X G) ?_;refine i6 (λ_=>a21.ok X G) ?_;refine i6 (λ_=>a22.ok X G) ?_;refine i6 (λ_=>a23.ok X G) ?_;refine i6 (λ_=>a24.ok X G) ?_;refine i6 (λ_=>a25.ok X G) ?_;refine i6 (λ_=>a26.ok X G) ?_;refine i6 (λ_=>a27.ok X G) ?_;refine i6 (λ_=>a28.ok X G) ?_;refine i6 (λ_=>a29.ok X G) ?_;refine i6 (λ_=>a30.ok X G) ?_;refine i6 (λ_=>a31.ok X G) ?_;refine i6 (λ_=>a32.ok X G) ?_;refine i6 (λ_=>a33.ok X G) ?_;refine i6 (λ_=>a34.ok X G) ?_;refine i6 (λ_=>a35.ok X G) ?_;refine i6 (λ_=>a36.ok X G) ?_;refine i6 (λ_=>a37.ok X G) ?_;refine i6 (λ_=>a38.ok X G) ?_;refine i6 (λ_=>a39.ok X G) ?_;refine i6 (λ_=>a40.ok X G) ?_;refine i6 (λ_=>a41.ok X G) ?_;refine i6 (λ_=>a42.ok X G) ?_;refine i6 (λ_=>a43.ok X G) ?_;refine i6 (λ_=>a44.ok X G) ?_;refine i6 (λ_=>a45.ok X G) ?_;refine i6 (λ_=>a46.ok X G) ?_;refine i6 (λ_=>a47.ok X G) ?_;refine i6 (λ_=>a48.ok X G) ?_;exact bo1
 ·
  refine(?_:∀f d,(f,d)∈V3->isM f=AC->∃c m,f=c7 c m∧isM c=AG∧isM m=AG∧MthOk K mg (A7 z4.cls (c7 c m)) c m d) f d (PySem.mem_of_lookup hf) hi;unfold V3;refine i6 (λ_=>m0.ok ca0 X G) ?_;refine i6 (λ_=>m1.ok ca0 X G) ?_;refine i6 (λ_=>m2.ok ca0 X G bu8 (λ_ _ _ _ _ _ _ _ _ _ _ hT hS=>⟨λus hl=>match us,hl with|[_,_,_],_=>HH rfl hT hS rfl rfl,λus hl=>match us,hl with|[_,_],_=>HH rfl hT hS rfl rfl⟩)) ?_;refine i6 (λ_=>m3.ok ca0 X G) ?_;refine i6 (λ_=>m4.ok ca0 X G) ?_;refine i6 (λ_=>m5.ok ca0 X G) ?_;refine i6 (λ_=>m6.ok ca0 X G) ?_;refine i6 (λ_=>m7.ok ca0 X G) ?_;refine i6 (λ_=>m8.ok ca0 X G) ?_;refine i6 (λ_=>m9.ok ca0 X G) ?_;refine i6 (λ_=>m10.ok ca0 X G) ?_;refine i6 (λ_=>m11.ok ca1 X G) ?_
  iterate 49 refine i6 (λhi=>absurd hi (by decide+kernel)) ?_
  exact bo1
 ·
  unfold z4 at hf;simp only at hf
  by_cases hck:c="!kt"
  ·subst hck;rw[kx0]at hn;cases hn
  rw[if_neg hck]at hf
  by_cases hdk0:c="!Shelf.laid_kind"
  ·subst hdk0;rw[ky0]at hn;cases hn
  rw[if_neg hdk0]at hf
  by_cases hc0:c="Shelf"
  ·subst hc0;rw[ca0.a]at hn;cases hn;rw[if_pos rfl]at hf;simp only[AM,Ae,or_false]at hf;refine⟨ca0.cl,?_⟩
   rcases hf with rfl|rfl|rfl|rfl
   ·exact cf0_0
   ·exact cf0_1
   ·exact cf0_2
   ·exact cf0_3
  rw[if_neg hc0]at hf
  by_cases hc1:c="Node"
  ·subst hc1;rw[ca1.a]at hn;cases hn;rw[if_pos rfl]at hf;simp only[AM,Ae,or_false]at hf;refine⟨ca1.cl,?_⟩
   rcases hf with rfl|rfl|rfl|rfl|rfl|rfl|rfl
   ·exact cf1_0
   ·exact cf1_1
   ·exact cf1_2
   ·exact cf1_3
   ·exact cf1_4
   ·exact cf1_5
   ·exact cf1_6
  rw[if_neg hc1]at hf;exact absurd hf Ae
 ·unfold z4 at hg ⊢;simp only at hg ⊢
  by_cases hg0:g="INNER_FROM"
  ·subst hg0;exact al7 X G ga0 gt0
  rw[if_neg hg0]at hg
  by_cases hg1:g="UNDER_ONE_MORE"
  ·subst hg1;exact al7 X G ga1 gt1
  rw[if_neg hg1]at hg
  by_cases hg2:g="BY_WORD"
  ·subst hg2;exact al7 X G ga2 gt2
  rw[if_neg hg2]at hg;exact absurd rfl hg
 ·unfold z4 at hg;simp only at hg
  by_cases hg0:g="FEW"
  ·subst hg0;rw[if_pos rfl]at hg;cases hg;exact⟨_,Hh X G kc0⟩
  rw[if_neg hg0]at hg;cases hg
end Ek
namespace PySem.W.Fast
def tw14689099691057527599:True:=⟨⟩
def tw299485839392756747:True:=⟨⟩
def tw8710430936832529652:True:=⟨⟩
def tw13426481159316188560:True:=⟨⟩
def tw6822690302947920291:True:=⟨⟩
def tw13836163534205735036:True:=⟨⟩
def tw15470457041879535814:True:=⟨⟩
def tw18049829188894470480:True:=⟨⟩
def tw6445787362528035302:True:=⟨⟩
def tw5930711458367147289:True:=⟨⟩
def tw5766034176031370024:True:=⟨⟩
def tw13496378361929761345:True:=⟨⟩
def tw17784454081357310130:True:=⟨⟩
def tw15583765498299965401:True:=⟨⟩
def tw15055342462123774956:True:=⟨⟩
def tw12224009268180795280:True:=⟨⟩
def tw7740451011523357803:True:=⟨⟩
def tw16538821733349807333:True:=⟨⟩
def tw3211848680844539067:True:=⟨⟩
def tw2983919686095029729:True:=⟨⟩
def tw16744999069394841259:True:=⟨⟩
def tw17244493288859412271:True:=⟨⟩
def tw18233969281211440682:True:=⟨⟩
def tw17049391986496360661:True:=⟨⟩
def tw4146715851590417004:True:=⟨⟩
def tw3743656113597654114:True:=⟨⟩
def tw12701964907503293117:True:=⟨⟩
def tw171044159399162810:True:=⟨⟩
def tw17470848136079851156:True:=⟨⟩
def tw6659377678463390025:True:=⟨⟩
def tw1436259027541968568:True:=⟨⟩
def tw982204950539273077:True:=⟨⟩
def tw17050069720906322438:True:=⟨⟩
def tw17480139828051081865:True:=⟨⟩
def tw11715726251679358511:True:=⟨⟩
def tw17151870704295565806:True:=⟨⟩
def tw7904188462091641365:True:=⟨⟩
def tw17547549620385994377:True:=⟨⟩
def tw1253625319563926136:True:=⟨⟩
def tw16739295188421388456:True:=⟨⟩
def tw15627649768471126032:True:=⟨⟩
def tw12407143514561265199:True:=⟨⟩
def tw7722226646031703760:True:=⟨⟩
def tw14427218502729609085:True:=⟨⟩
def tw7658222536526966482:True:=⟨⟩
def tw13912113319338231921:True:=⟨⟩
def tw15685452731961461930:True:=⟨⟩
def tw17658081352740571349:True:=⟨⟩
def tw11161299579006512529:True:=⟨⟩
def tw18097055359749350861:True:=⟨⟩
def tw4483334496813988584:True:=⟨⟩
def tw16433140707096637513:True:=⟨⟩
def tw2580444916572174295:True:=⟨⟩
def tw7655384517497452096:True:=⟨⟩
def tw10488952385038064046:True:=⟨⟩
def tw14088273462261933174:True:=⟨⟩
def tw2676224256898947136:True:=⟨⟩
def tw10404265951728109488:True:=⟨⟩
def tw14507320940716278841:True:=⟨⟩
def tw12198194800563220839:True:=⟨⟩
def tw6844844218998222512:True:=⟨⟩
def tw4889902326770070058:True:=⟨⟩
def tw16755854161580133648:True:=⟨⟩
def tw15331451692233944825:True:=⟨⟩
def tw179848120880628683:True:=⟨⟩
def tw13815952796104616088:True:=⟨⟩
def tw6716899990757563905:True:=⟨⟩
def tw16932098421576818157:True:=⟨⟩
def tw428737688188342278:True:=⟨⟩
def tw4543589107617808938:True:=⟨⟩
def tw13185425691150087811:True:=⟨⟩
def tw15760075395033451919:True:=⟨⟩
def tw10492330351325607323:True:=⟨⟩
def tw10577390656670949120:True:=⟨⟩
def tw8066276919834853750:True:=⟨⟩
def tw7727654655530815422:True:=⟨⟩
def tw5608955347883736908:True:=⟨⟩
def tw9209574964725106317:True:=⟨⟩
def tw17906522101672005039:True:=⟨⟩
def tw7476355607029421254:True:=⟨⟩
def tw18082798374322458020:True:=⟨⟩
def tw8170599443333529388:True:=⟨⟩
def tw14649091545696247811:True:=⟨⟩
def tw15938624948957861293:True:=⟨⟩
def tw1264131357174061820:True:=⟨⟩
def tw3964394463678907214:True:=⟨⟩
def tw8803120911327456194:True:=⟨⟩
def tw12696832095788418205:True:=⟨⟩
def tw17860293563247299992:True:=⟨⟩
def tw3318082672046710526:True:=⟨⟩
def tw491360264408798056:True:=⟨⟩
def tw14363425733641830231:True:=⟨⟩
def tw8005176107123246011:True:=⟨⟩
def tw10669026832027372569:True:=⟨⟩
def tw4733610897716399059:True:=⟨⟩
def tw10072407480635481317:True:=⟨⟩
def tw17286870755988885537:True:=⟨⟩
def tw9736658654108072190:True:=⟨⟩
def tw8616186046489244727:True:=⟨⟩
def tw5894855347977124134:True:=⟨⟩
def tw7570889304260764664:True:=⟨⟩
def tw18302844441147714202:True:=⟨⟩
def tw11956524912762156043:True:=⟨⟩
def tw5456474584484385568:True:=⟨⟩
def tw12583746919168024635:True:=⟨⟩
def tw16366793420185568354:True:=⟨⟩
def tw15250348782768897917:True:=⟨⟩
def tw5421048364362998932:True:=⟨⟩
def tw1596087030034312727:True:=⟨⟩
def tw5828142299591376468:True:=⟨⟩
def tw15809204633693749937:True:=⟨⟩
def tw15337008421098080025:True:=⟨⟩
def tw11491732248291028848:True:=⟨⟩
def tw11201762741388296494:True:=⟨⟩
def tw4304490156750572176:True:=⟨⟩
def tw7604133763628525031:True:=⟨⟩
def tw16876674706654275423:True:=⟨⟩
def tw12395209799135021325:True:=⟨⟩
def tw3262402639425519989:True:=⟨⟩
def tw5305500902281973009:True:=⟨⟩
def tw3644312105438008630:True:=⟨⟩
def tw12501921649769615225:True:=⟨⟩
def tw3324626124413459879:True:=⟨⟩
def tw14078524469465558563:True:=⟨⟩
def tw7145252192726500331:True:=⟨⟩
def tw13555854343132196717:True:=⟨⟩
def tw6282117346239574674:True:=⟨⟩
def tw1175040169018181385:True:=⟨⟩
def tw4603405218789487001:True:=⟨⟩
def tw9218639359006862535:True:=⟨⟩
def tw2894515883819702130:True:=⟨⟩
def tw11969457569983963728:True:=⟨⟩
def tw2245992121831440524:True:=⟨⟩
def tw9104399422991973993:True:=⟨⟩
def tw17115844760109813292:True:=⟨⟩
def tw13353613535397921078:True:=⟨⟩
def tw5311011362342650062:True:=⟨⟩
def tw11531376630336414769:True:=⟨⟩
def tw8906581304692316041:True:=⟨⟩
def tw3786796354909340505:True:=⟨⟩
def tw18222048315035769822:True:=⟨⟩
def tw2604575842085791400:True:=⟨⟩
def tw16623703785346833654:True:=⟨⟩
def tw14743558205371218284:True:=⟨⟩
def tw2285316818672530742:True:=⟨⟩
def tw9382823831053056556:True:=⟨⟩
def tw4750551093547381532:True:=⟨⟩
def tw1960672297720899109:True:=⟨⟩
def tw13979173051185498771:True:=⟨⟩
def tw14208801937590041909:True:=⟨⟩
def tw16616895377201850322:True:=⟨⟩
def tw11038722797997459174:True:=⟨⟩
def tw9895727737889462993:True:=⟨⟩
def tw5757103792322574516:True:=⟨⟩
def tw13637551798411139215:True:=⟨⟩
def tw3169352034904962274:True:=⟨⟩
def tw12283338938552692980:True:=⟨⟩
def tw8579400517861158251:True:=⟨⟩
def tw13630320114601842780:True:=⟨⟩
def tw7730602888961234905:True:=⟨⟩
def tw8582742425414329693:True:=⟨⟩
def tw10050470397297171220:True:=⟨⟩
def tw17298579231973655054:True:=⟨⟩
def tw8555161835467959798:True:=⟨⟩
def tw10980473747668350463:True:=⟨⟩
def tw18019445417901099254:True:=⟨⟩
def tw14529818621868724302:True:=⟨⟩
def tw15278613400625151341:True:=⟨⟩
def tw13048252756197287586:True:=⟨⟩
def tw2141638263301874543:True:=⟨⟩
def tw536519695091489664:True:=⟨⟩
def tw14921240620901152781:True:=⟨⟩
def tw13698253188186055834:True:=⟨⟩
def tw17648275798693567259:True:=⟨⟩
def tw1944699764343365873:True:=⟨⟩
def tw18415161229804365965:True:=⟨⟩
def tw14766430582721428258:True:=⟨⟩
def tw7353172372977994027:True:=⟨⟩
def tw18308929861923589272:True:=⟨⟩
def tw8367393228549684503:True:=⟨⟩
def tw3865903495859995639:True:=⟨⟩
def tw2282068442295017508:True:=⟨⟩
def tw3693986598778863798:True:=⟨⟩
def tw949426506290662167:True:=⟨⟩
def tw9201166777557239687:True:=⟨⟩
def tw3043805102896239687:True:=⟨⟩
def tw15057207846368434683:True:=⟨⟩
def tw17185720388514265533:True:=⟨⟩
def tw6568017116144966805:True:=⟨⟩
def tw11795302750434308995:True:=⟨⟩
def tw2184077304444291637:True:=⟨⟩
def tw11427336647734655452:True:=⟨⟩
def tw17648703377114059933:True:=⟨⟩
def tw6864672586995761446:True:=⟨⟩
def tw1450281566613599010:True:=⟨⟩
def tw11541597771368875944:True:=⟨⟩
def tw1433939378168546104:True:=⟨⟩
def tw13435396076285908531:True:=⟨⟩
def tw12035072261528027790:True:=⟨⟩
def tw18225164950329540990:True:=⟨⟩
def tw15057718987242349271:True:=⟨⟩
def tw16541221839226301779:True:=⟨⟩
def tw10240372225016007869:True:=⟨⟩
def tw10834552695968066619:True:=⟨⟩
def tw8377743997641858539:True:=⟨⟩
def tw9555784753471648150:True:=⟨⟩
def tw3777705788203711514:True:=⟨⟩
def tw193702513042141808:True:=⟨⟩
def tw2554074908098769169:True:=⟨⟩
def tw16313365249495514233:True:=⟨⟩
def tw17023825999296561177:True:=⟨⟩
def tw901697213552992377:True:=⟨⟩
def tw7681753035598199870:True:=⟨⟩
def tw14649940271174330674:True:=⟨⟩
def tw5032441667950844817:True:=⟨⟩
def tw1665556974100801917:True:=⟨⟩
def tw5508433615467526270:True:=⟨⟩
def tw13356794668075130861:True:=⟨⟩
def tw17216183179392818253:True:=⟨⟩
def tw13399739478389856437:True:=⟨⟩
def tw4147328321972438126:True:=⟨⟩
def tw8631295738711524597:True:=⟨⟩
def tw3193782821385611501:True:=⟨⟩
def tw13347178265683401319:True:=⟨⟩
def tw17344550838675498215:True:=⟨⟩
def tw1495277138111279780:True:=⟨⟩
def tw15917688466084827926:True:=⟨⟩
def tw12709439907683121262:True:=⟨⟩
def tw15100342824017097619:True:=⟨⟩
def tw7687130273307273012:True:=⟨⟩
def tw9433482521058918657:True:=⟨⟩
def tw15747772376099051580:True:=⟨⟩
def tw362149370883941015:True:=⟨⟩
def tw4890332023639377899:True:=⟨⟩
def tw12533132666688633311:True:=⟨⟩
def tw15115181497535841254:True:=⟨⟩
def tw7101867427217215985:True:=⟨⟩
def tw10642319440058532853:True:=⟨⟩
def tw9744384222230240134:True:=⟨⟩
def tw12510033634442657487:True:=⟨⟩
def tw4946573745334834125:True:=⟨⟩
def tw14216994331661103732:True:=⟨⟩
def tw8652904192051041343:True:=⟨⟩
def tw11231093501256183691:True:=⟨⟩
def tw8380853584979004127:True:=⟨⟩
def tw13702000335814541131:True:=⟨⟩
def tw13660819546306075346:True:=⟨⟩
def tw8028387655563049816:True:=⟨⟩
def tw17635899341515216387:True:=⟨⟩
def tw6115786660280769622:True:=⟨⟩
def tw16644823648072898169:True:=⟨⟩
def tw8428640427934556123:True:=⟨⟩
def tw13429838574962342289:True:=⟨⟩
def tw16895253212856879945:True:=⟨⟩
def tw18195162333439340078:True:=⟨⟩
def tw8567110771030641313:True:=⟨⟩
def tw10268201240675453265:True:=⟨⟩
def tw14306429427103007256:True:=⟨⟩
def tw5731624123043168997:True:=⟨⟩
def tw5825199197553476137:True:=⟨⟩
def tw1407569408677217548:True:=⟨⟩
def tw6382761262485647592:True:=⟨⟩
def tw4538565948391287144:True:=⟨⟩
def tw3944145676866138326:True:=⟨⟩
def tw7794432874586975246:True:=⟨⟩
def tw2065355857632728065:True:=⟨⟩
def tw4418155526476424029:True:=⟨⟩
def tw4441573345987860478:True:=⟨⟩
def tw14553719861931388495:True:=⟨⟩
def tw10545492270632769956:True:=⟨⟩
def tw8659475353107029967:True:=⟨⟩
def tw1198330717523966175:True:=⟨⟩
def tw8825196094159256786:True:=⟨⟩
def tw18126377798714158708:True:=⟨⟩
def tw2296975330088509279:True:=⟨⟩
def tw11905804421651156801:True:=⟨⟩
def tw5822122028707169506:True:=⟨⟩
def tw3946046731540558811:True:=⟨⟩
def tw5654815123342682786:True:=⟨⟩
def tw18204366325111049306:True:=⟨⟩
def tw4968450071231706248:True:=⟨⟩
def tw14918194255635426708:True:=⟨⟩
def tw9391487850501131742:True:=⟨⟩
def tw9929053061024375645:True:=⟨⟩
def tw12207562162451609889:True:=⟨⟩
def tw14447791490768685872:True:=⟨⟩
def tw10525905195925637771:True:=⟨⟩
def tw12866070799179980715:True:=⟨⟩
def tw6394442312167533589:True:=⟨⟩
def tw5001415661221341876:True:=⟨⟩
def tw1476388376269172004:True:=⟨⟩
def tw11075535278636349428:True:=⟨⟩
def tw13905751338731470370:True:=⟨⟩
def tw11988611392448506600:True:=⟨⟩
def tw18303626835967430563:True:=⟨⟩
def tw1550010877221569472:True:=⟨⟩
def tw17367394502947462659:True:=⟨⟩
def tw5861347609840677901:True:=⟨⟩
def tw1276785815618675374:True:=⟨⟩
def tw11470628058273435904:True:=⟨⟩
def tw17859594156547132251:True:=⟨⟩
def tw10467432354610243566:True:=⟨⟩
def tw17253083356891187538:True:=⟨⟩
def tw4225461343819283361:True:=⟨⟩
def tw6103721258880057959:True:=⟨⟩
def tw556735145206848576:True:=⟨⟩
def tw3443205945108602604:True:=⟨⟩
def tw16547566188334819839:True:=⟨⟩
def tw15132109749966168404:True:=⟨⟩
def tw9895344449029108197:True:=⟨⟩
end PySem.W.Fast
open PySem PySem.W PyProof.Rows
set_option maxRecDepth 100000 in
set_option maxHeartbeats 0 in
theorem PySem.Challenge.cw_evenkinds_k21_kinds_of_programs_holds : PySem.Challenge.rw_evenkinds_k21_kinds_of_programs.Holds := by
 w_on;o_law;k_head;(case hw=>w_witness2)
 k_fill
 refine Ek.cg5 (l:=PySem.Challenge.rw_evenkinds_k21_kinds_of_programs) (P:=Ek.V2) (G:=Ek.z4) (n:=80) (x:="_law_script") (dl:=Ek.Y2) rfl rfl rfl ⟨rfl,by decide,by decide⟩ (λw h Y=>⟨W.km_in_of Y,W.km_tabs_of Y⟩) rfl ?hst ?F Ek.b27
 case hst=>
  intro st ps S;have e:=S.sc.pre;have e2:=S.np;rw[e2]at e;exact e.symm
 case F=>
  intro w mg h KX G
  refine' Ek.ct2 KX G ?_ ?_ ?_ ?_ ?_ ?_ ?_ ?_ ?_ ?_ ?_ ?_ ?_ ?_ ?_ ?_ ?_ ?_ ?_ ?_ ?_ ?_ ?_ ?_ ?_ ?_ ?_ ?_ ?_ ?_ ?_ ?_ ?_ ?_ ?_ ?_ ?_ ?_ ?_ ?_ ?_ ?_ ?_ ?_ ?_ ?_ ?_ ?_ ?_ ?_ ?_ ?_ ?_ ?_ ?_ ?_ ?_ ?_ ?_ ?_ ?_ ?_ ?_ ?_ ?_ ?_ ?_ ?_ ?_ ?_ ?_ ?_ ?_ ?_ ?_ ?_ ?_ ?_ ?_ ?_ ?_ ?_ ?_ ?_ ?_ ?_ ?_
  rotate_left 6
  iterate 6 (refine' Ek.fnA ?a ?b ?c ?d;(case a=>k_is);(case b=>k_is);(case c=>k_is);(case d=>k_is))
  (refine' Ek.fnM ?a ?b ?c ?d ?e ?f ?g;(case a=>k_is);(case b=>k_is);(case c=>k_is);(case d=>k_is);(case e=>rfl);(case f=>kernel_rfl);(case g=>decide))
  iterate 7 (refine' Ek.fnA ?a ?b ?c ?d;(case a=>k_is);(case b=>k_is);(case c=>k_is);(case d=>k_is))
  (refine' Ek.fnM ?a ?b ?c ?d ?e ?f ?g;(case a=>k_is);(case b=>k_is);(case c=>k_is);(case d=>k_is);(case e=>rfl);(case f=>kernel_rfl);(case g=>decide))
  iterate 34 (refine' Ek.fnA ?a ?b ?c ?d;(case a=>k_is);(case b=>k_is);(case c=>k_is);(case d=>k_is))
  (intro b hb;simp only[Ek.P9,AM]at hb;(repeat' (rcases hb with rfl|hb))<;>k_is)
  k_is
  rfl
  k_is
  rfl
  k_is
  rfl
  iterate 3 k_is
  iterate 2 (refine' Ek.clA ?a ?b ?c ?d ?e ?f ?g;(case a=>k_is);(case b=>k_is);(case c=>k_is);(case d=>k_is);(case e=>k_is);(case f=>k_is);(case g=>k_is))
  iterate 11 k_is
  (refine' Ek.mtA ?a ?b ?c ?d ?e ?f;(case a=>k_is);(case b=>k_is);(case c=>k_is);(case d=>k_is);(case e=>k_is);(case f=>k_is))
  (refine' Ek.mtM ?a ?b ?c ?d ?e ?f ?g ?h ?i;(case a=>k_is);(case b=>k_is);(case c=>k_is);(case d=>k_is);(case e=>k_is);(case f=>k_is);(case g=>rfl);(case h=>kernel_rfl);(case i=>decide))
  (refine' Ek.mtD ?a ?b ?c ?d ?e ?f ?g;(case a=>k_is);(case b=>k_is);(case c=>k_is);(case d=>k_is);(case e=>k_is);(case f=>k_is);(case g=>k_is))
  iterate 9 (refine' Ek.mtA ?a ?b ?c ?d ?e ?f;(case a=>k_is);(case b=>k_is);(case c=>k_is);(case d=>k_is);(case e=>k_is);(case f=>k_is))
  iterate 3 rfl
#print axioms PySem.Challenge.cw_evenkinds_k21_kinds_of_programs_holds
